import Derived.Test.YtlojgpkajkedeaaGreatDoorOPU
set_option maxHeartbeats 0
set_option maxRecDepth 100000
namespace Go.Proofs.YtlojgpkajkedeaaGreatDoor
open Go.RowKit Go.Proofs.Tryz
theorem YC (a n:Nat)(d:n<10 ^ (a+1)):(Lib.decDigits n).length<=a+1:=by
 induction a generalizing n with
 |zero=>rw[Zb n (by simpa using d)];simp
 |succ a g=>
  by_cases f:n<10
  ·rw[Zb n f];simp
  rw[Z4 n f,Qa];have:=g (n / 10) (Nat.div_lt_of_lt_mul (by rw[Nat.pow_succ,Nat.mul_comm]at d;exact d));simp;omega
mutual
def Lf:Rn->Prop
 |.nd a n _ _ _ d=>1<=a/\a<=15/\(a=2->0<=n)/\n<=1000000000/\Gy d
def Gy:List Rn->Prop
 |[]=>True
 |n::f=>Lf n/\Gy f
end
theorem zaw (l:List Rn)(d:Gy l)(i:Nat)(t:Rn)(a:l[i]?=some t):Lf t:=by
 induction l generalizing i with
 |nil=>simp at a
 |cons h g f=>
  simp only[Gy]at d;cases i with
  |zero=>simp at a;subst a;exact d.1
  |succ i=>exact f d.2 i (by simpa using a)
theorem YV (l:List Rn)(k:Nat)(a:Gy l):Gy (l.take k):=by
 induction l generalizing k with
 |nil=>simpa using a
 |cons g f d=>
  simp only[Gy]at a;cases k with
  |zero=>simp[Gy]
  |succ k=>simp only[Qz,Gy];exact⟨a.1,d k a.2⟩
def Ni (n:Int):List UInt8:=Lib.decDigits n.toNat
theorem EC (n:Int)(a:n<=1000000000):(Ni n).length<=10:=YC 9 n.toNat Z
def H6 (k:Int)(t:List UInt8)(a:Bool):Bool:=(decide (k=6)&&decide (t=[116,105,103,104,116]))||(decide (k=7)&&a)
def Im (i:List UInt8):List UInt8:=i.takeWhile (λc=>c != 32)
def Eh (k n:Int)(i t:List UInt8)(f:Bool)(a d:List UInt8):List UInt8:=
 if k=1 then (if f=true then a++[10]else [60,112,62]++a++[60,47,112,62,10])
 else if k=2 then [60,104]++Ni n++[62]++a++[60,47,104]++Ni n++[62,10]
 else if k=3 then (if Im i=[]then [60,112,114,101,62,60,99,111,100,101,62]++S.Bd t++[60,47,99,111,100,101,62,60,47,112,114,101,62,10]else [60,112,114,101,62,60,99,111,100,101,32,99,108,97,115,115,61,34]++S.Bd (Im i)++[34,62]++S.Bd t++[60,47,99,111,100,101,62,60,47,112,114,101,62,10])
 else if k=4 then [60,104,114,62,10]
 else if k=5 then [60,113,117,111,116,101,62,10]++a++[60,47,113,117,111,116,101,62,10]
 else if k=6 then (if n<0 then [60,117,108,62,10]++a++[60,47,117,108,62,10]else if n=1 then [60,111,108,62,10]++a++[60,47,111,108,62,10]else [60,111,108,32,115,116,97,114,116,61,34]++Ni n++[34,62,10]++a++[60,47,111,108,62,10])
 else if k=7 then [60,108,105,62,10]++a++[60,47,108,105,62,10]
 else if k=8 then S.Bd t
 else if k=9 then [10]
 else if k=10 then [60,98,114,62,10]
 else if k=11 then [60,99,111,100,101,62]++S.Bd t++[60,47,99,111,100,101,62]
 else if k=12 then [60,97,32,104,114,101,102,61,34]++S.Bd i++[34,62]++a++[60,47,97,62]
 else if k=13 then [60,105,109,103,32,115,114,99,61,34]++S.Bd i++[34,32,97,108,116,61,34]++S.Bd d++[34,62]
 else if k=14 then [60,101,109,62]++a++[60,47,101,109,62]
 else [60,115,116,114,111,110,103,62]++a++[60,47,115,116,114,111,110,103,62]
mutual
def Ky (a:Bool):Rn->List UInt8
 |.nd d n i g _ f=>Eh d n i g a (Em (H6 d g a) f) (Dm f)
def Em (a:Bool):List Rn->List UInt8
 |[]=>[]
 |n::h=>Ky a n++Em a h
end
theorem zju (d:Bool)(a b:List Rn):Em d (a++b)=Em d a++Em d b:=by
 induction a with
 |nil=>simp[Em]
 |cons h g f=>simp only[List.cons_append,Em,f,Qp]
theorem zij (a:Bool)(l:List Rn)(k:Nat)(t:Rn)(d:l[k]?=some t):Em a (l.take (k+1))=Em a (l.take k)++Ky a t:=by
 rw[Sv,d,zju];simp[Em]
theorem TA (i:List UInt8):(Im i).length<=i.length:=(List.takeWhile_sublist _).length_le
theorem zly (l:List UInt8)(d:Nat)(a:d<(Im l).length):∃c,l[d]?=some c/\c≠32:=by
 induction l generalizing d with
 |nil=>simp[Im]at a
 |cons b h f=>
  unfold Im at a f;rw[List.takeWhile_cons]at a;split at a
  ·rename_i g;cases d with
   |zero=>exact⟨b,rfl,by simpa using g⟩
   |succ d=>exact f d (by simpa using a)
  simp at a
theorem zaz (l:List UInt8)(c:UInt8)(a:l[(Im l).length]?=some c):c=32:=by
 induction l with
 |nil=>simp[Im]at a
 |cons b g d=>
  unfold Im at a d;rw[List.takeWhile_cons]at a;split at a
  ·exact d (by simpa using a)
  rename_i f;simp at a;rw[<-a];simpa using f
theorem zn6 (l:List UInt8):Im l=l.take (Im l).length:=by
 induction l with
 |nil=>rfl
 |cons b d a=>
  unfold Im at a ⊢;rw[List.takeWhile_cons];split
  ·rw[Qd,Qz,<-a]
  rfl
mutual
theorem NG (d:Bool) (n:Rn) (g:Lf n):(Ky d n).length<=100*H7 n:=by
 cases n with
 |nd a k i l h j=>
  simp only[Lf]at g;have m:=Yz (H6 a l d) j g.2.2.2.2;have F:=S.Gu l;have K:=S.Gu i;have L:=S.Gu (Dm j);have M:=Rx j;have N:=S.Gu (Im i);have P:=TA i;have Q:=EC k g.2.2.2.1;simp only[Ky,H7];generalize Em (H6 a l d) j=R at m ⊢;unfold Eh;by_cases o:a=1
  ·rw[if_pos o];by_cases f:d=true
   ·rw[if_pos f];simp only[Qa,Qd,Qi];omega
   rw[if_neg f];simp only[Qa,Qd,Qi];omega
  rw[if_neg o];by_cases u:a=2
  ·rw[if_pos u];simp only[Qa,Qd,Qi];omega
  rw[if_neg u];by_cases v:a=3
  ·rw[if_pos v];by_cases f:Im i=[]
   ·rw[if_pos f];simp only[Qa,Qd,Qi];omega
   rw[if_neg f];simp only[Qa,Qd,Qi];omega
  rw[if_neg v];by_cases x:a=4
  ·rw[if_pos x];simp only[Qd,Qi];omega
  rw[if_neg x];by_cases y:a=5
  ·rw[if_pos y];simp only[Qa,Qd,Qi];omega
  rw[if_neg y];by_cases z:a=6
  ·rw[if_pos z];by_cases f:k<0
   ·rw[if_pos f];simp only[Qa,Qd,Qi];omega
   rw[if_neg f];by_cases E:k=1
   ·rw[if_pos E];simp only[Qa,Qd,Qi];omega
   rw[if_neg E];simp only[Qa,Qd,Qi];omega
  rw[if_neg z];by_cases A:a=7
  ·rw[if_pos A];simp only[Qa,Qd,Qi];omega
  rw[if_neg A];by_cases C:a=8
  ·rw[if_pos C];omega
  rw[if_neg C];by_cases D:a=9
  ·rw[if_pos D];simp only[Qd,Qi];omega
  rw[if_neg D];by_cases p:a=10
  ·rw[if_pos p];simp only[Qd,Qi];omega
  rw[if_neg p];by_cases q:a=11
  ·rw[if_pos q];simp only[Qa,Qd,Qi];omega
  rw[if_neg q];by_cases r:a=12
  ·rw[if_pos r];simp only[Qa,Qd,Qi];omega
  rw[if_neg r];by_cases s:a=13
  ·rw[if_pos s];simp only[Qa,Qd,Qi];omega
  rw[if_neg s];by_cases t:a=14
  ·rw[if_pos t];simp only[Qa,Qd,Qi];omega
  rw[if_neg t];simp only[Qa,Qd,Qi];omega
theorem Yz (d:Bool) (h:List Rn) (g:Gy h):(Em d h).length<=100*Dp h:=by
 cases h with
 |nil=>simp[Em]
 |cons H G=>
  simp only[Gy]at g;have m:=NG d H g.1;have F:=Yz d G g.2;simp only[Em,Dp,Qa];omega
end
theorem zei {a:Sb}{l:List UInt8}(d:a.data.toList=l):a=S.B l:=by rw[<-d,S.El]
theorem zkp (kd n:Int)(s k:List UInt8)(T:Int)(u:List Rn)(N:So)(Q P:Nat)(A:Bool)(w:Sw)(bk:Lf (.nd kd n s k T u))(b7:H7 (.nd kd n s k T u)<=1000000)
  (bu:∀(bo:Bool) (a:Sw),Below w w a->Calls prog 69 #[.slice N Q P,bo] a λe h=>e=.returned (.string (S.B (Em bo u)))/\Below a.heap.size a h)
  (bs:∀a:Sw,Below w w a->Calls prog 101 #[.slice N Q P] a λe h=>e=.returned (.string (S.B (Dm u)))/\h=a) :
  Calls prog 100 #[Ob (.nd kd n s k T u) (.slice N Q P),A] w λe h=>e=.returned (.string (S.B (Ky A (.nd kd n s k T u))))/\Below w w h:=by
 have cz:=V bk;simp only[Lf]at bk;simp only[H7]at b7;obtain⟨E,af⟩:=Qzz (w.alloc (.cells #[O,kd,n,(S.B s),(S.B k),T,.slice N Q P] 118));have a3:Below w w E:=by rw[af];exact Sr.alloc (Qc _) _
 have ac:E.heap[w.heap.size]?=some (.cells #[O,kd,n,(S.B s),(S.B k),T,.slice N Q P] 118 (0,0)):=by rw[af];exact Ak _ _
 have bz:E.heap.size=(w:Nat)+1:=by rw[af];simp
 obtain⟨q,aq⟩:=Qyy (S.B s);obtain⟨z,au⟩:=Qyy (S.B k);obtain⟨ax,bb⟩:=Qyy (Em (H6 kd k A) u);obtain⟨x,a9⟩:=Qyy (S.B ax);have c3:x.size<=100000000:=by
  rw[<-a9,S.Bc,<-bb];have:=Yz (H6 kd k A) u bk.2.2.2.2;omega
 have H:U (Calls prog 69 #[.slice N Q P,.bool (H6 kd k A)] E λe h=>e=.returned x/\Below E E h):=V (by
  have:=bu (H6 kd k A) E a3;rw[bb,a9]at this;exact this)
 have t:U (∀bn:Sb,bn.data.toList=Eh kd n s k A ax (Dm u)->bn=S.B (Ky A (.nd kd n s k T u))):=V (λbn cm=>by
  refine zei (cm.trans ?_);simp only[Ky];rw[bb])
 have F:U (x.data.toList=ax):=V (by rw[<-a9,S.Bq]);have M:U (z.data.toList=k):=V (by rw[<-au,S.Bq]);have L:U (q.data.toList=s):=V (by rw[<-aq,S.Bq]);rw[aq,au]at ac;show Calls _ _ #[.agg #[O,kd,n,(S.B s),(S.B k),T,.slice N Q P],A] w _;rw[aq,au];rw[aq,au]at af;have c4:=V ac;have ap:=V af;have cr:=V a3;have c2:=V bz;have bt:=V bs;have ar:U (∀d,Below E E d->d.heap[w.heap.size]?=some (.cells #[O,kd,n,q,z,T,.slice N Q P] 118 (0,0))/\Below w w d):=V (λd bq=>⟨(bq.block w Z).trans ac,a3.trans (bq.mono Z)⟩);have c5:=X ac 1 _ rfl;have c6:=X ac 4 _ rfl;have c7:=X ac 6 _ rfl;clear ac af a3 bz bs bu bb a9 aq au;by_cases a1:kd=6
 ·subst a1;have aa:(H6 6 k A=true/\(z.toList == [116,105,103,104,116])=true/\z.toList=[116,105,103,104,116])\/(H6 6 k A=false/\(z.toList == [116,105,103,104,116])=false/\¬z.toList=[116,105,103,104,116]):=by
   by_cases j:k=[116,105,103,104,116]
   ·exact .inl ⟨by simp[H6,j],by rw[ByteArray.toList_eq,M.q,j];rfl,by rw[ByteArray.toList_eq,M.q,j]⟩
   exact .inr ⟨by simp[H6,j],by rw[ByteArray.toList_eq,M.q,Qe];exact j,by rw[ByteArray.toList_eq,M.q];exact j⟩
  by_cases a7:n<0
  ·have ch:(n:Int)<0:=a7;have g:=V (t.q ((⟨#[60,117,108,62,10]⟩:Sb)++x ++ ⟨#[60,47,117,108,62,10]⟩) (by simp[Eh,ByteArray.data_append,F.q,a7]));rcases aa with ⟨W,an,ao⟩|⟨W,an,ao⟩ <;>
   (rw[W]at H
    go_enter func100,ntmps100;go_wp2_with (fail);rw[<-ap.q];apply H.m;rintro e d⟨rfl,C⟩;have f:=ar.q d C;have bd:d.cell? (w 1)=some (.int .i64 6):=X f.1 1 _ rfl;have ak:=X f.1 2 _ rfl;have ab:=X f.1 3 _ rfl;have al:=X f.1 4 _ rfl;have am:=X f.1 6 _ rfl;have l:=V f;clear f C;go_wp2;go_ret;exact⟨by rw[<-g.q];rfl,l.q.2⟩)
  have ch:¬n<0:=a7;by_cases bj:n=1
  ·subst bj;have g:=V (t.q ((⟨#[60,111,108,62,10]⟩:Sb)++x ++ ⟨#[60,47,111,108,62,10]⟩) (by simp[Eh,ByteArray.data_append,F.q]));rcases aa with ⟨W,an,ao⟩|⟨W,an,ao⟩ <;>
   (rw[W]at H
    go_enter func100,ntmps100;go_wp2_with (fail);rw[<-ap.q];apply H.m;rintro e d⟨rfl,C⟩;have f:=ar.q d C;have bd:d.cell? (w 1)=some (.int .i64 6):=X f.1 1 _ rfl;have ak:d.cell? (w 2)=some (.int .i64 1):=X f.1 2 _ rfl;have ab:=X f.1 3 _ rfl;have al:=X f.1 4 _ rfl;have am:=X f.1 6 _ rfl;have l:=V f;clear f C;go_wp2;go_ret;exact⟨by rw[<-g.q];rfl,l.q.2⟩)
  have cy:(n == 1)=false:=by rw[Qe];exact bj
  obtain⟨v,bi⟩:∃v:Nat,n=(v:Int):=⟨n.toNat,Z⟩;subst bi;obtain⟨y,R⟩:=Qyy (S.B (Ni (v:Int)));have b9:y.size<=10:=by rw[<-R,S.Bc];exact EC _ Z
  have bg:U (∀a,Calls prog 145 #[v] a λe h=>e=.returned y/\Below a.heap.size a h):=V (λa=>by
   have:=MJ v a Z;rw[<-R];exact this)
  have bh:U (y.data.toList=Ni (v:Int)):=V (by rw[<-R,S.Bq]);clear R;have g:=V (t.q ((⟨#[60,111,108,32,115,116,97,114,116,61,34]⟩:Sb)++y ++ ⟨#[34,62,10]⟩ ++ x ++ ⟨#[60,47,111,108,62,10]⟩) (by simp[Eh,ByteArray.data_append,F.q,bh.q,a7,bj]));rcases aa with ⟨W,an,ao⟩|⟨W,an,ao⟩ <;>
  (rw[W]at H
   go_enter func100,ntmps100;go_wp2_with (fail);rw[<-ap.q];apply H.m;rintro e d⟨rfl,C⟩;have f:=ar.q d C;have bd:d.cell? (w 1)=some (.int .i64 6):=X f.1 1 _ rfl;have ak:d.cell? (w 2)=some (.int .i64 (v:Int)):=X f.1 2 _ rfl;have ab:=X f.1 3 _ rfl;have al:=X f.1 4 _ rfl;have am:=X f.1 6 _ rfl;have l:=V f;clear f C;go_wp2_with (fail);refine(bg.q d).mono ?_;rintro e bf⟨rfl,bp⟩;have b6:=V (l.q.2.trans (bp.mono l.q.2.size));clear bp;go_wp2;go_ret;exact⟨by rw[<-g.q];rfl,b6.q⟩)
 by_cases a2:kd=7
 ·subst a2;have ba:H6 7 k A=A:=by simp[H6]
  rw[ba]at H;have g:=V (t.q ((⟨#[60,108,105,62,10]⟩:Sb)++x ++ ⟨#[60,47,108,105,62,10]⟩) (by simp[Eh,ByteArray.data_append,F.q]));go_enter func100,ntmps100;go_wp2_with fail
  rw[<-ap.q];apply H.m;rintro e d⟨rfl,C⟩;have f:=ar.q d C;have bd:d.cell? (w 1)=some (.int .i64 7):=X f.1 1 _ rfl;have ak:=X f.1 2 _ rfl;have ab:=X f.1 3 _ rfl;have al:=X f.1 4 _ rfl;have am:=X f.1 6 _ rfl;have l:=V f;clear f C;go_wp2;go_ret;exact⟨by rw[<-g.q];rfl,l.q.2⟩
 have b0:(kd == 6)=false:=by rw[Qe];exact a1
 have b1:(kd == 7)=false:=by rw[Qe];exact a2
 have ba:H6 kd k A=false:=by simp[H6,a1,a2]
 rw[ba]at H;have bw:kd=1\/kd=2\/kd=3\/kd=4\/kd=5\/kd=8\/kd=9\/kd=10\/kd=11\/kd=12\/kd=13\/kd=14\/kd=15:=Z;clear a1 a2;go_enter func100,ntmps100;go_wp2_with fail
 rw[<-ap.q];apply H.m;rintro e d⟨rfl,C⟩;have f:=ar.q d C;have bd:=X f.1 1 _ rfl;have ak:=X f.1 2 _ rfl;have ab:=X f.1 3 _ rfl;have al:=X f.1 4 _ rfl;have am:=X f.1 6 _ rfl;have l:=V f;clear f C;clear b0 b1 ba;rcases bw with rfl|rfl|rfl|rfl|rfl|rfl|rfl|rfl|rfl|rfl|rfl|rfl|rfl
 ·skip
  cases A
  ·have g:=V (t.q ((⟨#[60,112,62]⟩:Sb)++x ++ ⟨#[60,47,112,62,10]⟩) (by simp[Eh,ByteArray.data_append,F.q]));go_wp2;go_ret;exact⟨by rw[<-g.q];rfl,l.q.2⟩
  have g:=V (t.q (x ++ ⟨#[10]⟩) (by simp[Eh,ByteArray.data_append,F.q]));go_wp2;go_ret;exact⟨by rw[<-g.q];rfl,l.q.2⟩
 ·skip
  obtain⟨v,bi⟩:∃v:Nat,n=(v:Int):=⟨n.toNat,Z⟩;subst bi;obtain⟨y,R⟩:=Qyy (S.B (Ni (v:Int)));have b9:y.size<=10:=by rw[<-R,S.Bc];exact EC _ Z
  have bg:U (∀a,Calls prog 145 #[v] a λe h=>e=.returned y/\Below a.heap.size a h):=V (λa=>by
   have:=MJ v a Z;rw[<-R];exact this)
  have bh:U (y.data.toList=Ni (v:Int)):=V (by rw[<-R,S.Bq]);clear R;have g:=V (t.q ((⟨#[60,104]⟩:Sb)++y ++ ⟨#[62]⟩ ++ x ++ ⟨#[60,47,104]⟩ ++ y ++ ⟨#[62,10]⟩) (by simp[Eh,ByteArray.data_append,F.q,bh.q]));haveI br:Nonempty (Bk d):=⟨⟨d,Sr⟩⟩;have c8:∀kk:Bk d,kk.w.cell? (w 2)=some (.int .i64 (v:Int)):=λkk=>(kk.h.cell (p:=⟨w,2,none⟩) (Sqf _ _ ak)).trans ak;have b2:U (∀kk:Bk d,Calls prog 145 #[v] kk.w λe h=>e=.returned y/\Below d.heap.size d h):=V (λkk=>(bg.q kk.w).mono (λe h j=>⟨j.1,kk.h.trans (j.2.mono kk.h.size)⟩));have ah:U (∀kk:Bk d,Below w w kk.w):=V (λkk=>l.q.2.trans (kk.h.mono l.q.2.size));go_upto_region 8 with fail
  refine I6 Sk Sk ?_;repeat (go_big_quiet_step ((rename_i kk;exact(b2.q kk).mono (λe h j=>⟨j.1,⟨h,j.2⟩,rfl⟩))))
  refine wpQuiet_nil ?_;intro _ av;obtain⟨kq,aw⟩:=av;subst aw;go_wp2;go_ret;exact⟨by rw[<-g.q];rfl,ah.q kq⟩
 ·skip
  obtain⟨m,o⟩:∃e,S.B (S.Bd k)=e:=⟨_,rfl⟩;have a6:m.size<=10000000:=by rw[<-o,S.Bc];have:=S.Gu k;omega
  have G:U (∀a,Calls prog 146 #[z] a λe h=>e=.returned m/\h=a):=V (λa=>by
   have:=Tj z a (by rw[<-S.lda,M.q];omega);rw[M.q,o]at this;exact this)
  have K:U (m.data.toList=S.Bd k):=V (by rw[<-o,S.Bq]);clear o;obtain⟨r,aj⟩:=Qyy (Im s);have ck:=TA s;rw[aj]at ck;have cu:q.size<=1000000:=by rw[<-S.lda,L.q];omega
  have cl:U (∀bc,bc<r.length->∃c,s[bc]?=some c/\c≠32):=V (by
   rw[<-aj];exact λbc cc=>zly s bc cc)
  have cj:U (∀c,s[r.length]?=some c->c=32):=V (by
   rw[<-aj];exact λc aa=>zaz s c aa)
  go_upto_region 11 with fail
  go_loop [6] (λbm=>∃D:Nat,D<=r.length/\bm=.int .i64 D) (λbm=>r.length-(intOf bm).toNat)
  case atStart=>exact⟨0,Qt _,rfl⟩
  case round=>
   obtain⟨D,bw,rfl⟩:=hrel;have cv:(0:Int)<=(D:Int):=Z;by_cases cf:D<r.length
   ·obtain⟨c,aa,b8⟩:=cl.q D cf;have cd:D<q.size:=(by rw[<-S.lda,L.q];omega);have cq:(D:Int)<(q.size:Int):=Z;have bv:q[D]=c:=by
     have:=S.Bz q D cd;rw[L.q,aa]at this;exact(Qy this).symm
    have cx:((q[D].toNat:Int) != 32)=true:=by
     rw[bv,bne_iff_ne];intro e;exact b8 (Qk.1 (SX.1 e))
    clear aa bv;go_wp2;go_round
    case rel=>exact⟨D+1,Z,by go_num⟩
    case measure=>exact Sj
   have ce:D=r.length:=Z;subst ce;have ag:¬(r.length:Int)<(q.size:Int)\/((r.length:Int)<(q.size:Int)/\∃j:r.length<q.size,((q[r.length].toNat:Int) != 32)=false):=by
    by_cases j:r.length<q.size
    ·refine .inr ⟨Z,j,?_⟩;have:=S.Bz q r.length j;rw[L.q]at this;rw[cj.q _ this];rfl
    exact .inl Z
   by_cases ai:r=[]
   ·have g:=V (t.q ((⟨#[60,112,114,101,62,60,99,111,100,101,62]⟩:Sb)++m ++ ⟨#[60,47,99,111,100,101,62,60,47,112,114,101,62,10]⟩) (by simp[Eh,ByteArray.data_append,K.q,aj,ai]));have co:¬(0:Int)<(r.length:Int):=(by rw[ai];simp);clear ai;rcases ag with ag|⟨ag,cg,ci⟩ <;>
    (go_wp2_with fail
     refine(G.q d).mono ?_;rintro e bf⟨rfl,rfl⟩;go_wp2;go_ret;exact⟨by rw[<-g.q];rfl,l.q.2⟩)
   have c1:0<r.length:=Qbf.2 ai;have co:(0:Int)<(r.length:Int):=Z;have cw:(r.length:Int)<=(q.size:Int):=by rw[<-S.lda,L.q];omega
   obtain⟨ay,cn⟩:=Qyy (q.extract 0 r.length);have bl:ay.data.toList=r:=by rw[<-cn,S.extract_data,L.q,Nat.sub_zero,List.drop_zero,<-aj,<-zn6]
   obtain⟨a0,a5⟩:∃e,S.B (S.Bd r)=e:=⟨_,rfl⟩;have ct:a0.size<=10000000:=by rw[<-a5,S.Bc];have:=S.Gu r;omega
   have b5:U (∀a,Calls prog 146 #[ay] a λe h=>e=.returned a0/\h=a):=V (λa=>by
    have:=Tj ay a (by rw[<-S.lda,bl];omega);rw[bl,a5]at this;exact this)
   have cb:U (a0.data.toList=S.Bd r):=V (by rw[<-a5,S.Bq]);have g:=V (t.q ((⟨#[60,112,114,101,62,60,99,111,100,101,32,99,108,97,115,115,61,34]⟩:Sb)++a0 ++ ⟨#[34,62]⟩ ++ m ++ ⟨#[60,47,99,111,100,101,62,60,47,112,114,101,62,10]⟩) (by simp[Eh,ByteArray.data_append,K.q,cb.q,aj,ai]));haveI br:Nonempty (Bk d):=⟨⟨d,Sr⟩⟩;have cp:∀kk:Bk d,kk.w.cell? (w 3)=some (.string q):=λkk=>(kk.h.cell (p:=⟨w,3,none⟩) (Sqf _ _ ab)).trans ab;have c9:∀kk:Bk d,kk.w.cell? (w 4)=some (.string z):=λkk=>(kk.h.cell (p:=⟨w,4,none⟩) (Sqf _ _ al)).trans al;have ah:U (∀kk:Bk d,Below w w kk.w):=V (λkk=>l.q.2.trans (kk.h.mono l.q.2.size));clear a5 bl ai;rcases ag with ag|⟨ag,cg,ci⟩ <;>
   (go_upto_region 14 with fail
    refine I6 Sk Sk ?_;repeat (go_big_quiet_step ((rename_i kk;first|with_reducible exact(b5.q kk.w).mono (λe h j=>⟨j.1,kk,j.2⟩)|with_reducible exact(G.q kk.w).mono (λe h j=>⟨j.1,kk,j.2⟩))))
    refine wpQuiet_nil ?_;intro _ av;obtain⟨kq,aw⟩:=av;subst aw;go_wp2;go_ret;exact⟨by rw[<-g.q];rfl,ah.q kq⟩)
 ·skip
  have g:=V (t.q (⟨#[60,104,114,62,10]⟩) (by simp[Eh]));go_wp2;go_ret;exact⟨by rw[<-g.q];rfl,l.q.2⟩
 ·skip
  have g:=V (t.q ((⟨#[60,113,117,111,116,101,62,10]⟩:Sb)++x ++ ⟨#[60,47,113,117,111,116,101,62,10]⟩) (by simp[Eh,ByteArray.data_append,F.q]));go_wp2;go_ret;exact⟨by rw[<-g.q];rfl,l.q.2⟩
 ·skip
  obtain⟨m,o⟩:∃e,S.B (S.Bd k)=e:=⟨_,rfl⟩;have a6:m.size<=10000000:=by rw[<-o,S.Bc];have:=S.Gu k;omega
  have G:U (∀a,Calls prog 146 #[z] a λe h=>e=.returned m/\h=a):=V (λa=>by
   have:=Tj z a (by rw[<-S.lda,M.q];omega);rw[M.q,o]at this;exact this)
  have K:U (m.data.toList=S.Bd k):=V (by rw[<-o,S.Bq]);clear o;have g:=V (t.q (m) (by simp[Eh,K.q]));go_wp2_with fail
  refine(G.q d).mono ?_;rintro e bf⟨rfl,rfl⟩;go_wp2;go_ret;exact⟨by rw[<-g.q];rfl,l.q.2⟩
 ·skip
  have g:=V (t.q (⟨#[10]⟩) (by simp[Eh]));go_wp2;go_ret;exact⟨by rw[<-g.q];rfl,l.q.2⟩
 ·skip
  have g:=V (t.q (⟨#[60,98,114,62,10]⟩) (by simp[Eh]));go_wp2;go_ret;exact⟨by rw[<-g.q];rfl,l.q.2⟩
 ·skip
  obtain⟨m,o⟩:∃e,S.B (S.Bd k)=e:=⟨_,rfl⟩;have a6:m.size<=10000000:=by rw[<-o,S.Bc];have:=S.Gu k;omega
  have G:U (∀a,Calls prog 146 #[z] a λe h=>e=.returned m/\h=a):=V (λa=>by
   have:=Tj z a (by rw[<-S.lda,M.q];omega);rw[M.q,o]at this;exact this)
  have K:U (m.data.toList=S.Bd k):=V (by rw[<-o,S.Bq]);clear o;have g:=V (t.q ((⟨#[60,99,111,100,101,62]⟩:Sb)++m ++ ⟨#[60,47,99,111,100,101,62]⟩) (by simp[Eh,ByteArray.data_append,K.q]));go_wp2_with fail
  refine(G.q d).mono ?_;rintro e bf⟨rfl,rfl⟩;go_wp2;go_ret;exact⟨by rw[<-g.q];rfl,l.q.2⟩
 ·skip
  obtain⟨m,o⟩:∃e,S.B (S.Bd s)=e:=⟨_,rfl⟩;have a6:m.size<=10000000:=by rw[<-o,S.Bc];have:=S.Gu s;omega
  have G:U (∀a,Calls prog 146 #[q] a λe h=>e=.returned m/\h=a):=V (λa=>by
   have:=Tj q a (by rw[<-S.lda,L.q];omega);rw[L.q,o]at this;exact this)
  have K:U (m.data.toList=S.Bd s):=V (by rw[<-o,S.Bq]);clear o;have g:=V (t.q ((⟨#[60,97,32,104,114,101,102,61,34]⟩:Sb)++m ++ ⟨#[34,62]⟩ ++ x ++ ⟨#[60,47,97,62]⟩) (by simp[Eh,ByteArray.data_append,F.q,K.q]));go_wp2_with fail
  refine(G.q d).mono ?_;rintro e bf⟨rfl,rfl⟩;go_wp2;go_ret;exact⟨by rw[<-g.q];rfl,l.q.2⟩
 ·skip
  obtain⟨m,o⟩:∃e,S.B (S.Bd s)=e:=⟨_,rfl⟩;have a6:m.size<=10000000:=by rw[<-o,S.Bc];have:=S.Gu s;omega
  have G:U (∀a,Calls prog 146 #[q] a λe h=>e=.returned m/\h=a):=V (λa=>by
   have:=Tj q a (by rw[<-S.lda,L.q];omega);rw[L.q,o]at this;exact this)
  have K:U (m.data.toList=S.Bd s):=V (by rw[<-o,S.Bq]);clear o;obtain⟨ae,a8⟩:=Qyy (S.B (Dm u));have c0:ae.size<=1000000:=by rw[<-a8,S.Bc];have:=Rx u;omega
  have bx:ae.data.toList=Dm u:=by rw[<-a8,S.Bq]
  obtain⟨az,a4⟩:∃e,S.B (S.Bd (Dm u))=e:=⟨_,rfl⟩;have cs:az.size<=10000000:=by rw[<-a4,S.Bc];have:=S.Gu (Dm u);have:=Rx u;omega
  have b4:U (∀a,Calls prog 146 #[ae] a λe h=>e=.returned az/\h=a):=V (λa=>by
   have:=Tj ae a Z;rw[bx,a4]at this;exact this)
  have ca:U (az.data.toList=S.Bd (Dm u)):=V (by rw[<-a4,S.Bq]);rw[a8]at bt;clear a4 a8 bx;have g:=V (t.q ((⟨#[60,105,109,103,32,115,114,99,61,34]⟩:Sb)++m ++ ⟨#[34,32,97,108,116,61,34]⟩ ++ az ++ ⟨#[34,62]⟩) (by simp[Eh,ByteArray.data_append,K.q,ca.q]));haveI br:Nonempty (Bk d):=⟨⟨d,Sr⟩⟩;have cp:∀kk:Bk d,kk.w.cell? (w 3)=some (.string q):=λkk=>(kk.h.cell (p:=⟨w,3,none⟩) (Sqf _ _ ab)).trans ab;have da:∀kk:Bk d,kk.w.cell? (w 6)=some (.slice N Q P):=λkk=>(kk.h.cell (p:=⟨w,6,none⟩) (Sqf _ _ am)).trans am;have ah:U (∀kk:Bk d,Below w w kk.w):=V (λkk=>l.q.2.trans (kk.h.mono l.q.2.size));have b3:U (∀kk:Bk d,Calls prog 101 #[.slice N Q P] kk.w λe h=>e=.returned ae/\h=kk.w):=V (λkk=>bt.q kk.w (ah.q kk));go_upto_region 39 with fail
  refine I6 Sk Sk ?_;repeat (go_big_quiet_step ((rename_i kk;first|with_reducible exact(b3.q kk).mono (λe h j=>⟨j.1,kk,j.2⟩)|with_reducible exact(b4.q kk.w).mono (λe h j=>⟨j.1,kk,j.2⟩)|with_reducible exact(G.q kk.w).mono (λe h j=>⟨j.1,kk,j.2⟩))))
  refine wpQuiet_nil ?_;intro _ av;obtain⟨kq,aw⟩:=av;subst aw;go_wp2;go_ret;exact⟨by rw[<-g.q];rfl,ah.q kq⟩
 ·skip
  have g:=V (t.q ((⟨#[60,101,109,62]⟩:Sb)++x ++ ⟨#[60,47,101,109,62]⟩) (by simp[Eh,ByteArray.data_append,F.q]));go_wp2;go_ret;exact⟨by rw[<-g.q];rfl,l.q.2⟩
 skip
 have g:=V (t.q ((⟨#[60,115,116,114,111,110,103,62]⟩:Sb)++x ++ ⟨#[60,47,115,116,114,111,110,103,62]⟩) (by simp[Eh,ByteArray.data_append,F.q]));go_wp2;go_ret;exact⟨by rw[<-g.q];rfl,l.q.2⟩
theorem zo0 (A:Nat->Prop)(k:Sw)(P:∀l,A l->l<k)(v:Value)(ns:List Rn)(av:Bv k A v ns):∀(w:Sw) (f:Bool),Below k k w->Gy ns->Dp ns<=1000000 ->
  Calls prog 69 #[v,f] w λe ae=>e=.returned (.string (S.B (Em f ns)))/\Below w w ae:=by
 induction av with
 |nil=>
  intro w f o z hd;clear o z hd;go_enter func69,ntmps69;go_wp2;refine wp_loop_rounds 1 ?_;rw[rounds_succ];go_wp2;go_ret;exact⟨rfl,Sr⟩
 |some b g bj ns bt ag bp al am ar=>
  intro w f o z hd;have ah:=P b ag;have ak:=o.size;have bo:b<w:=Qh ah ak;have bs:=Zy ns;have br:ns.length<=1000000:=Z;have a0:=V al;have a3:=V am;have a9:=V ar;have az:=V o;have aw:=V P;have aa:=V hd;have ao:=V z;clear al am ar o P ag z;go_enter func69,ntmps69;go_wp2;go_loopw [5,6] (λd i wr=>∃a:Nat,a<=ns.length/\i=.int .i64 a/\d=.string (S.B (Em f (ns.take a)))/\U (Below w w wr)) (λ_ i _=>ns.length-(intOf i).toNat)
  case atStart=>exact⟨0,Qt _,rfl,by simp[Em];rfl,V Sr⟩
  case round=>
   obtain⟨a,bq,rfl,rfl,C⟩:=hrel;by_cases a6:a<ns.length
   ·obtain⟨d,j⟩:∃d,ns[a]?=some d:=⟨ns[a],Qg a6⟩;have W:=a0.q a d j;have y:=a3.q a d j;have a2:=CR ns a d j;have ac:=a9.q a d j;have r:=zaw ns ao.q a d j;have ap:=zij f ns a d j;have a7:=DZ ns a;have a5:=Yz f (ns.take a) (YV ns a ao.q);obtain⟨E,H,F,an⟩:=y.form;rw[an]at W ac y;obtain⟨t,u⟩:=Qyy (S.B (Em f (ns.take a)));have bm:t.size<=100000000:=(by rw[<-u,S.Bc];have:=aa.q;omega);obtain⟨m,x⟩:=Qyy (S.B (Ky f d));have bn:m.size<=100000000:=(by rw[<-x,S.Bc];have:=NG f d r;have:=aa.q;omega);have a1:U (t++m=S.B (Em f (ns.take (a+1)))):=V (by rw[<-u,<-x,BU,S.Bq,ap]);rw[u];have q:Below k k wr:=az.q.trans (C.q.mono ak);have aq:k<=wr.heap.size:=q.size;have h:∀s N,(Ko d (.slice E H F))[s]?=some N->wr.cell? (b (g+a*7+s))=some N:=λs N a8=>(q.cell (p:=⟨b,g+a*7+s,none⟩) ah).trans (W s N a8);cases d with
    |nd G n D M L K=>
    have T:H7 (.nd G n D M L K)<=1000000:=(by have:=aa.q;omega);have aj:Dp K<=1000000:=(by simp only[H7]at T;omega);have Q:=zkp G n D M L K E H F f wr r T (λau af R=>ac af au (q.trans (R.mono aq)) (by simp only[Lf]at r;exact r.2.2.2.2) aj) (λaf R=>RP _ af _ K (y.move (λl ab=>ab) (λl ab=>(q.trans (R.mono aq)).block l (aw.q l ab))) Z);rw[x]at Q;have ax:U (Calls prog 100 #[.agg #[O,G,n,(S.B D),(S.B M),L,.slice E H F],f] wr λe ae=>e=.returned m/\Below wr wr ae):=V Q;have bb:wr.cell? (b (g+a*7))=some (.int .i64 0):=h 0 _ rfl;have bc:wr.cell? (b (g+a*7+1))=some (.int .i64 G):=h 1 _ rfl;have bd:wr.cell? (b (g+a*7+2))=some (.int .i64 n):=h 2 _ rfl;have bf:wr.cell? (b (g+a*7+3))=some (.string (S.B D)):=h 3 _ rfl;have bg:wr.cell? (b (g+a*7+4))=some (.string (S.B M)):=h 4 _ rfl;have bh:wr.cell? (b (g+a*7+5))=some (.int .i64 L):=h 5 _ rfl;have bi:wr.cell? (b (g+a*7+6))=some (.slice E H F):=h 6 _ rfl;have bl:(a:Int)<(ns.length:Int):=Z;have bk:(0:Int)<=(a:Int):=Z;clear W y ac an ap a5 a7 u j a2 x Q h q r T aj;go_wp2_with (fail);apply ax.m;rintro e ba⟨rfl,ai⟩;have ay:U (Below w w ba):=V (C.q.trans (ai.mono C.q.size));clear ai;go_wp2;go_roundw
    case rel=>exact⟨a+1,Z,by go_num,by rw[a1.q],ay⟩
    case measure=>exact Sj
   have a4:a=ns.length:=Z;subst a4;rw[Qbl];go_wp2;go_ret;exact⟨rfl,C.q⟩
