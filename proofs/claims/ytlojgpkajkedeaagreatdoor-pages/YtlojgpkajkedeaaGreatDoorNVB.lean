import Derived.Test.YtlojgpkajkedeaaGreatDoorNPU
set_option maxHeartbeats 16000000
set_option maxRecDepth 100000
namespace Go.Proofs.YtlojgpkajkedeaaGreatDoor
open Go.RowKit Go.Proofs.Tryz
theorem z3t (f n:Nat)(h:n<10 ^ (f+1)):(Lib.decDigits n).length<=f+1:=by
 induction f generalizing n with
 | zero=>rw[zjf n (by simpa using h)];simp
 | succ f ih=>
  by_cases h10:n<10
  ·rw[zjf n h10];simp
  ·rw[zrw n h10,Qa];have:=ih (n / 10) (Nat.div_lt_of_lt_mul (by rw[Nat.pow_succ,Nat.mul_comm] at h;exact h));simp;omega
mutual
def okR:Rn->Prop
 | .nd k n _ _ _ ks=>1<=k/\k<=15/\(k=2->0<=n)/\n<=1000000000/\okRs ks
def okRs:List Rn->Prop
 | []=>True
 | n::r=>okR n/\okRs r
end
theorem z0y (l:List Rn)(h:okRs l)(i:Nat)(t:Rn)(hi:l[i]?=some t):okR t:=by
 induction l generalizing i with
 | nil=>simp at hi
 | cons x r ih=>
  simp only[okRs] at h;cases i with
  | zero=>simp at hi;subst hi;exact h.1
  | succ i=>exact ih h.2 i (by simpa using hi)
theorem zx2 (l:List Rn)(k:Nat)(h:okRs l):okRs (l.take k):=by
 induction l generalizing k with
 | nil=>simpa using h
 | cons x r ih=>
  simp only[okRs] at h;cases k with
  | zero=>simp[okRs]
  | succ k=>simp only[Qz,okRs];exact⟨h.1,ih k h.2⟩
def dgB (n:Int):List UInt8:=Lib.decDigits n.toNat
theorem zzg (n:Int)(h:n<=1000000000):(dgB n).length<=10:=z3t 9 n.toNat (by omega)
def tiK (k:Int)(t:List UInt8)(tight:Bool):Bool:=(decide (k=6)&&decide (t=[116,105,103,104,116]))||(decide (k=7)&&tight)
def zg0 (i:List UInt8):List UInt8:=i.takeWhile (λc=>c != 32)
def wrK (k n:Int)(i t:List UInt8)(tight:Bool)(wi pl:List UInt8):List UInt8:=
 if k=1 then (if tight=true then wi++[10] else [60,112,62]++wi++[60,47,112,62,10])
 else if k=2 then [60,104]++dgB n++[62]++wi++[60,47,104]++dgB n++[62,10]
 else if k=3 then (if zg0 i=[] then [60,112,114,101,62,60,99,111,100,101,62]++S.escH t++[60,47,99,111,100,101,62,60,47,112,114,101,62,10] else [60,112,114,101,62,60,99,111,100,101,32,99,108,97,115,115,61,34]++S.escH (zg0 i)++[34,62]++S.escH t++[60,47,99,111,100,101,62,60,47,112,114,101,62,10])
 else if k=4 then [60,104,114,62,10]
 else if k=5 then [60,113,117,111,116,101,62,10]++wi++[60,47,113,117,111,116,101,62,10]
 else if k=6 then (if n<0 then [60,117,108,62,10]++wi++[60,47,117,108,62,10] else if n=1 then [60,111,108,62,10]++wi++[60,47,111,108,62,10] else [60,111,108,32,115,116,97,114,116,61,34]++dgB n++[34,62,10]++wi++[60,47,111,108,62,10])
 else if k=7 then [60,108,105,62,10]++wi++[60,47,108,105,62,10]
 else if k=8 then S.escH t
 else if k=9 then [10]
 else if k=10 then [60,98,114,62,10]
 else if k=11 then [60,99,111,100,101,62]++S.escH t++[60,47,99,111,100,101,62]
 else if k=12 then [60,97,32,104,114,101,102,61,34]++S.escH i++[34,62]++wi++[60,47,97,62]
 else if k=13 then [60,105,109,103,32,115,114,99,61,34]++S.escH i++[34,32,97,108,116,61,34]++S.escH pl++[34,62]
 else if k=14 then [60,101,109,62]++wi++[60,47,101,109,62]
 else [60,115,116,114,111,110,103,62]++wi++[60,47,115,116,114,111,110,103,62]
mutual
def wrR (tight:Bool):Rn->List UInt8
 | .nd k n i t _ ks=>wrK k n i t tight (wrRs (tiK k t tight) ks) (rPls ks)
def wrRs (tight:Bool):List Rn->List UInt8
 | []=>[]
 | n::r=>wrR tight n++wrRs tight r
end
theorem ztt (f:Bool)(a b:List Rn):wrRs f (a++b)=wrRs f a++wrRs f b:=by
 induction a with
 | nil=>simp[wrRs]
 | cons x r ih=>simp only[List.cons_append,wrRs,ih,Qp]
theorem zxj (f:Bool)(l:List Rn)(k:Nat)(t:Rn)(h:l[k]?=some t):wrRs f (l.take (k+1))=wrRs f (l.take k)++wrR f t:=by
 rw[List.take_add_one,h,ztt];simp[wrRs]
theorem zuy (i:List UInt8):(zg0 i).length<=i.length:=(List.takeWhile_sublist _).length_le
theorem z05 (l:List UInt8)(j:Nat)(h:j<(zg0 l).length):∃c,l[j]?=some c/\c≠32:=by
 induction l generalizing j with
 | nil=>simp[zg0] at h
 | cons b r ih=>
  unfold zg0 at h ih;rw[List.takeWhile_cons] at h;split at h
  ·rename_i hb;cases j with
   | zero=>exact⟨b,rfl,by simpa using hb⟩
   | succ j=>exact ih j (by simpa using h)
  ·simp at h
theorem zzc (l:List UInt8)(c:UInt8)(h:l[(zg0 l).length]?=some c):c=32:=by
 induction l with
 | nil=>simp[zg0] at h
 | cons b r ih=>
  unfold zg0 at h ih;rw[List.takeWhile_cons] at h;split at h
  ·exact ih (by simpa using h)
  ·rename_i hb;simp at h;rw[<-h];simpa using hb
theorem zy7 (l:List UInt8):zg0 l=l.take (zg0 l).length:=by
 induction l with
 | nil=>rfl
 | cons b r ih=>
  unfold zg0 at ih ⊢;rw[List.takeWhile_cons];split
  ·rw[Qd,Qz,<-ih]
  ·rfl
mutual
theorem z1u (f:Bool) (n:Rn) (h:okR n):(wrR f n).length<=100*byR n:=by
 cases n with
 | nd k m i t l ks=>
  simp only[okR] at h;have h1:=zp3 (tiK k t f) ks h.2.2.2.2;have h2:=S.zc9 t;have h3:=S.zc9 i;have h4:=S.zc9 (rPls ks);have h5:=zi8 ks;have h6:=S.zc9 (zg0 i);have h7:=zuy i;have h8:=zzg m h.2.2.2.1;simp only[wrR,byR];generalize wrRs (tiK k t f) ks=wi at h1 ⊢;unfold wrK;by_cases h_1:k=1
  ·rw[if_pos h_1];by_cases hf:f=true
   ·rw[if_pos hf];simp only[Qa,Qd,Qi];omega
   ·rw[if_neg hf];simp only[Qa,Qd,Qi];omega
  rw[if_neg h_1];by_cases h_2:k=2
  ·rw[if_pos h_2];simp only[Qa,Qd,Qi];omega
  rw[if_neg h_2];by_cases h_3:k=3
  ·rw[if_pos h_3];by_cases hf:zg0 i=[]
   ·rw[if_pos hf];simp only[Qa,Qd,Qi];omega
   ·rw[if_neg hf];simp only[Qa,Qd,Qi];omega
  rw[if_neg h_3];by_cases h_4:k=4
  ·rw[if_pos h_4];simp only[Qd,Qi];omega
  rw[if_neg h_4];by_cases h_5:k=5
  ·rw[if_pos h_5];simp only[Qa,Qd,Qi];omega
  rw[if_neg h_5];by_cases h_6:k=6
  ·rw[if_pos h_6];by_cases hf:m<0
   ·rw[if_pos hf];simp only[Qa,Qd,Qi];omega
   ·rw[if_neg hf];by_cases hg:m=1
    ·rw[if_pos hg];simp only[Qa,Qd,Qi];omega
    ·rw[if_neg hg];simp only[Qa,Qd,Qi];omega
  rw[if_neg h_6];by_cases h_7:k=7
  ·rw[if_pos h_7];simp only[Qa,Qd,Qi];omega
  rw[if_neg h_7];by_cases h_8:k=8
  ·rw[if_pos h_8];omega
  rw[if_neg h_8];by_cases h_9:k=9
  ·rw[if_pos h_9];simp only[Qd,Qi];omega
  rw[if_neg h_9];by_cases h_10:k=10
  ·rw[if_pos h_10];simp only[Qd,Qi];omega
  rw[if_neg h_10];by_cases h_11:k=11
  ·rw[if_pos h_11];simp only[Qa,Qd,Qi];omega
  rw[if_neg h_11];by_cases h_12:k=12
  ·rw[if_pos h_12];simp only[Qa,Qd,Qi];omega
  rw[if_neg h_12];by_cases h_13:k=13
  ·rw[if_pos h_13];simp only[Qa,Qd,Qi];omega
  rw[if_neg h_13];by_cases h_14:k=14
  ·rw[if_pos h_14];simp only[Qa,Qd,Qi];omega
  rw[if_neg h_14];simp only[Qa,Qd,Qi];omega
theorem zp3 (f:Bool) (l:List Rn) (h:okRs l):(wrRs f l).length<=100*byRs l:=by
 cases l with
 | nil=>simp[wrRs]
 | cons x r=>
  simp only[okRs] at h;have h1:=z1u f x h.1;have h2:=zp3 f r h.2;simp only[wrRs,byRs,Qa];omega
end
theorem zyt {x:ByteArray}{l:List UInt8}(h:x.data.toList=l):x=S.B l:=by rw[<-h,S.zbp]
theorem zsg (kd n:Int)(inf tx:List UInt8)(li:Int)(ks:List Rn)(ka:Option Addr)(kn kc:Nat)(tight:Bool)(w:World)(hok:okR (.nd kd n inf tx li ks))(hby:byR (.nd kd n inf tx li ks)<=1000000)
  (hW:∀(f:Bool) (wx:World),Below w.heap.size w wx->Calls prog 69 #[.slice ka kn kc,.bool f] wx λe w'=>e=.returned (.string (S.B (wrRs f ks)))/\Below wx.heap.size wx w')
  (hP:∀wx:World,Below w.heap.size w wx->Calls prog 101 #[.slice ka kn kc] wx λe w'=>e=.returned (.string (S.B (rPls ks)))/\w'=wx) :
  Calls prog 100 #[zon (.nd kd n inf tx li ks) (.slice ka kn kc),.bool tight] w λe w'=>e=.returned (.string (S.B (wrR tight (.nd kd n inf tx li ks))))/\Below w.heap.size w w':=by
 have ny:=hid hok;simp only[okR] at hok;simp only[byR] at hby
 obtain⟨W0,hW0⟩:=Qzz (w.alloc (.cells #[.int .i64 0,.int .i64 kd,.int .i64 n,.string (S.B inf),.string (S.B tx),.int .i64 li,.slice ka kn kc] 118));have hb0:Below w.heap.size w W0:=by rw[hW0];exact(Below.refl _ _).alloc (Qc _) _
 have hx0:W0.heap[w.heap.size]?=some (.cells #[.int .i64 0,.int .i64 kd,.int .i64 n,.string (S.B inf),.string (S.B tx),.int .i64 li,.slice ka kn kc] 118 (0,0)):=by rw[hW0];exact za1 _ _
 have hs0:W0.heap.size=w.heap.size+1:=by rw[hW0];simp
 obtain⟨iB,jk⟩:=Qyy (S.B inf);obtain⟨tB,jg⟩:=Qyy (S.B tx);obtain⟨wi,hwi⟩:=Qyy (wrRs (tiK kd tx tight) ks);obtain⟨sB,hsB⟩:=Qyy (S.B wi);have hsz:sB.size<=100000000:=by
  rw[<-hsB,S.zav,<-hwi];have:=zp3 (tiK kd tx tight) ks hok.2.2.2.2;omega
 have gq:Hid (Calls prog 69 #[.slice ka kn kc,.bool (tiK kd tx tight)] W0 λe w'=>e=.returned (.string sB)/\Below W0.heap.size W0 w'):=hid (by
  have:=hW (tiK kd tx tight) W0 hb0;rw[hwi,hsB] at this;exact this)
 have hend:Hid (∀x:ByteArray,x.data.toList=wrK kd n inf tx tight wi (rPls ks)->x=S.B (wrR tight (.nd kd n inf tx li ks))):=hid (λx hx=>by
  refine zyt (hx.trans ?_);simp only[wrR];rw[hwi])
 have dh:Hid (sB.data.toList=wi):=hid (by rw[<-hsB,S.zaz]);have dx:Hid (tB.data.toList=tx):=hid (by rw[<-jg,S.zaz]);have fq:Hid (iB.data.toList=inf):=hid (by rw[<-jk,S.zaz]);rw[jk,jg] at hx0;show Calls _ _ #[.agg #[.int .i64 0,.int .i64 kd,.int .i64 n,.string (S.B inf),.string (S.B tx),.int .i64 li,.slice ka kn kc],.bool tight] w _;rw[jk,jg];rw[jk,jg] at hW0;have mh:=hid hx0;have dw:=hid hW0;have qb:=hid hb0;have mq:=hid hs0;have lq:=hid hP;have hkeep:Hid (∀w1,Below W0.heap.size W0 w1->w1.heap[w.heap.size]?=some (.cells #[.int .i64 0,.int .i64 kd,.int .i64 n,.string iB,.string tB,.int .i64 li,.slice ka kn kc] 118 (0,0))/\Below w.heap.size w w1):=hid (λw1 h1=>⟨(h1.block w.heap.size (by omega)).trans hx0,hb0.trans (h1.mono (by omega))⟩);have p1:W0.cell? ⟨w.heap.size,1,none⟩=some (.int .i64 kd):=za0 hx0 1 _ rfl;have p4:W0.cell? ⟨w.heap.size,4,none⟩=some (.string tB):=za0 hx0 4 _ rfl;have p6:W0.cell? ⟨w.heap.size,6,none⟩=some (.slice ka kn kc):=za0 hx0 6 _ rfl;clear hx0 hW0 hb0 hs0 hP hW hwi hsB jk jg;by_cases h6:kd=6
 ·subst h6;have hc:(tiK 6 tx tight=true/\(tB.toList == [116,105,103,104,116])=true/\tB.toList=[116,105,103,104,116])\/(tiK 6 tx tight=false/\(tB.toList == [116,105,103,104,116])=false/\¬tB.toList=[116,105,103,104,116]):=by
   by_cases h:tx=[116,105,103,104,116]
   ·exact .inl ⟨by simp[tiK,h],by rw[ByteArray.toList_eq,dx.out,h];rfl,by rw[ByteArray.toList_eq,dx.out,h]⟩
   ·exact .inr ⟨by simp[tiK,h],by rw[ByteArray.toList_eq,dx.out,Qe];exact h,by rw[ByteArray.toList_eq,dx.out];exact h⟩
  by_cases hn0:n<0
  ·have jw:(n:Int)<0:=hn0;have he:=hid (hend.out ((⟨#[60,117,108,62,10]⟩:ByteArray)++sB ++ ⟨#[60,47,117,108,62,10]⟩) (by simp[wrK,ByteArray.data_append,dh.out,hn0]));rcases hc with ⟨c1,c2,c3⟩|⟨c1,c2,c3⟩ <;>
   (rw[c1] at gq
    go_enter func100,ntmps100;go_wp2_with (fail);rw[<-dw.out];refine gq.out.mono ?_;rintro e w1⟨rfl,g1⟩;have y:=hkeep.out w1 g1;have q1:w1.cell? ⟨w.heap.size,1,none⟩=some (.int .i64 6):=za0 y.1 1 _ rfl;have q2:w1.cell? ⟨w.heap.size,2,none⟩=some (.int .i64 n):=za0 y.1 2 _ rfl;have q3:w1.cell? ⟨w.heap.size,3,none⟩=some (.string iB):=za0 y.1 3 _ rfl;have q4:w1.cell? ⟨w.heap.size,4,none⟩=some (.string tB):=za0 y.1 4 _ rfl;have q6:w1.cell? ⟨w.heap.size,6,none⟩=some (.slice ka kn kc):=za0 y.1 6 _ rfl;have yH:=hid y;clear y g1;go_wp2;go_ret;exact⟨by rw[<-he.out];rfl,yH.out.2⟩)
  have jw:¬n<0:=hn0;by_cases hn1:n=1
  ·subst hn1;have he:=hid (hend.out ((⟨#[60,111,108,62,10]⟩:ByteArray)++sB ++ ⟨#[60,47,111,108,62,10]⟩) (by simp[wrK,ByteArray.data_append,dh.out]));rcases hc with ⟨c1,c2,c3⟩|⟨c1,c2,c3⟩ <;>
   (rw[c1] at gq
    go_enter func100,ntmps100;go_wp2_with (fail);rw[<-dw.out];refine gq.out.mono ?_;rintro e w1⟨rfl,g1⟩;have y:=hkeep.out w1 g1;have q1:w1.cell? ⟨w.heap.size,1,none⟩=some (.int .i64 6):=za0 y.1 1 _ rfl;have q2:w1.cell? ⟨w.heap.size,2,none⟩=some (.int .i64 1):=za0 y.1 2 _ rfl;have q3:w1.cell? ⟨w.heap.size,3,none⟩=some (.string iB):=za0 y.1 3 _ rfl;have q4:w1.cell? ⟨w.heap.size,4,none⟩=some (.string tB):=za0 y.1 4 _ rfl;have q6:w1.cell? ⟨w.heap.size,6,none⟩=some (.slice ka kn kc):=za0 y.1 6 _ rfl;have yH:=hid y;clear y g1;go_wp2;go_ret;exact⟨by rw[<-he.out];rfl,yH.out.2⟩)
  have hn1':(n == 1)=false:=by rw[Qe];exact hn1
  obtain⟨m,hm⟩:∃m:Nat,n=(m:Int):=⟨n.toNat,by omega⟩;subst hm;obtain⟨dg,hdg⟩:=Qyy (S.B (dgB (m:Int)));have hdz:dg.size<=10:=by rw[<-hdg,S.zav];exact zzg _ (by omega)
  have lg:Hid (∀wx,Calls prog 145 #[.int .i64 (m:Nat)] wx λe w'=>e=.returned (.string dg)/\Below wx.heap.size wx w'):=hid (λwx=>by
   have:=zlb m wx (by omega);rw[<-hdg];exact this)
  have kr:Hid (dg.data.toList=dgB (m:Int)):=hid (by rw[<-hdg,S.zaz]);clear hdg;have he:=hid (hend.out ((⟨#[60,111,108,32,115,116,97,114,116,61,34]⟩:ByteArray)++dg ++ ⟨#[34,62,10]⟩ ++ sB ++ ⟨#[60,47,111,108,62,10]⟩) (by simp[wrK,ByteArray.data_append,dh.out,kr.out,hn0,hn1]));rcases hc with ⟨c1,c2,c3⟩|⟨c1,c2,c3⟩ <;>
  (rw[c1] at gq
   go_enter func100,ntmps100;go_wp2_with (fail);rw[<-dw.out];refine gq.out.mono ?_;rintro e w1⟨rfl,g1⟩;have y:=hkeep.out w1 g1;have q1:w1.cell? ⟨w.heap.size,1,none⟩=some (.int .i64 6):=za0 y.1 1 _ rfl;have q2:w1.cell? ⟨w.heap.size,2,none⟩=some (.int .i64 (m:Int)):=za0 y.1 2 _ rfl;have q3:w1.cell? ⟨w.heap.size,3,none⟩=some (.string iB):=za0 y.1 3 _ rfl;have q4:w1.cell? ⟨w.heap.size,4,none⟩=some (.string tB):=za0 y.1 4 _ rfl;have q6:w1.cell? ⟨w.heap.size,6,none⟩=some (.slice ka kn kc):=za0 y.1 6 _ rfl;have yH:=hid y;clear y g1;go_wp2_with (fail);refine(lg.out w1).mono ?_;rintro e w2⟨rfl,g2⟩;have hb2:=hid (yH.out.2.trans (g2.mono yH.out.2.size));clear g2;go_wp2;go_ret;exact⟨by rw[<-he.out];rfl,hb2.out⟩)
 by_cases h7:kd=7
 ·subst h7;have hti:tiK 7 tx tight=tight:=by simp[tiK]
  rw[hti] at gq;have he:=hid (hend.out ((⟨#[60,108,105,62,10]⟩:ByteArray)++sB ++ ⟨#[60,47,108,105,62,10]⟩) (by simp[wrK,ByteArray.data_append,dh.out]));go_enter func100,ntmps100;go_wp2_with fail
  rw[<-dw.out];refine gq.out.mono ?_;rintro e w1⟨rfl,g1⟩;have y:=hkeep.out w1 g1;have q1:w1.cell? ⟨w.heap.size,1,none⟩=some (.int .i64 7):=za0 y.1 1 _ rfl;have q2:w1.cell? ⟨w.heap.size,2,none⟩=some (.int .i64 n):=za0 y.1 2 _ rfl;have q3:w1.cell? ⟨w.heap.size,3,none⟩=some (.string iB):=za0 y.1 3 _ rfl;have q4:w1.cell? ⟨w.heap.size,4,none⟩=some (.string tB):=za0 y.1 4 _ rfl;have q6:w1.cell? ⟨w.heap.size,6,none⟩=some (.slice ka kn kc):=za0 y.1 6 _ rfl;have yH:=hid y;clear y g1;go_wp2;go_ret;exact⟨by rw[<-he.out];rfl,yH.out.2⟩
 have g6:(kd == 6)=false:=by rw[Qe];exact h6
 have g7:(kd == 7)=false:=by rw[Qe];exact h7
 have hti:tiK kd tx tight=false:=by simp[tiK,h6,h7]
 rw[hti] at gq;have hk:kd=1\/kd=2\/kd=3\/kd=4\/kd=5\/kd=8\/kd=9\/kd=10\/kd=11\/kd=12\/kd=13\/kd=14\/kd=15:=by omega
 clear h6 h7;go_enter func100,ntmps100;go_wp2_with fail
 rw[<-dw.out];refine gq.out.mono ?_;rintro e w1⟨rfl,g1⟩;have y:=hkeep.out w1 g1;have q1:w1.cell? ⟨w.heap.size,1,none⟩=some (.int .i64 kd):=za0 y.1 1 _ rfl;have q2:w1.cell? ⟨w.heap.size,2,none⟩=some (.int .i64 n):=za0 y.1 2 _ rfl;have q3:w1.cell? ⟨w.heap.size,3,none⟩=some (.string iB):=za0 y.1 3 _ rfl;have q4:w1.cell? ⟨w.heap.size,4,none⟩=some (.string tB):=za0 y.1 4 _ rfl;have q6:w1.cell? ⟨w.heap.size,6,none⟩=some (.slice ka kn kc):=za0 y.1 6 _ rfl;have yH:=hid y;clear y g1;clear g6 g7 hti;rcases hk with rfl|rfl|rfl|rfl|rfl|rfl|rfl|rfl|rfl|rfl|rfl|rfl|rfl
 ·skip
  cases tight
  ·have he:=hid (hend.out ((⟨#[60,112,62]⟩:ByteArray)++sB ++ ⟨#[60,47,112,62,10]⟩) (by simp[wrK,ByteArray.data_append,dh.out]));go_wp2;go_ret;exact⟨by rw[<-he.out];rfl,yH.out.2⟩
  ·have he:=hid (hend.out (sB ++ ⟨#[10]⟩) (by simp[wrK,ByteArray.data_append,dh.out]));go_wp2;go_ret;exact⟨by rw[<-he.out];rfl,yH.out.2⟩
 ·skip
  obtain⟨m,hm⟩:∃m:Nat,n=(m:Int):=⟨n.toNat,by omega⟩;subst hm;obtain⟨dg,hdg⟩:=Qyy (S.B (dgB (m:Int)));have hdz:dg.size<=10:=by rw[<-hdg,S.zav];exact zzg _ (by omega)
  have lg:Hid (∀wx,Calls prog 145 #[.int .i64 (m:Nat)] wx λe w'=>e=.returned (.string dg)/\Below wx.heap.size wx w'):=hid (λwx=>by
   have:=zlb m wx (by omega);rw[<-hdg];exact this)
  have kr:Hid (dg.data.toList=dgB (m:Int)):=hid (by rw[<-hdg,S.zaz]);clear hdg;have he:=hid (hend.out ((⟨#[60,104]⟩:ByteArray)++dg ++ ⟨#[62]⟩ ++ sB ++ ⟨#[60,47,104]⟩ ++ dg ++ ⟨#[62,10]⟩) (by simp[wrK,ByteArray.data_append,dh.out,kr.out]));haveI hNE:Nonempty (Bk w1):=⟨⟨w1,Below.refl _ _⟩⟩;have q2':∀kk:Bk w1,kk.w.cell? ⟨w.heap.size,2,none⟩=some (.int .i64 (m:Int)):=λkk=>(kk.h.cell (p:=⟨w.heap.size,2,none⟩) (World.block_lt_of_cell? _ _ q2)).trans q2;have qh:Hid (∀kk:Bk w1,Calls prog 145 #[.int .i64 (m:Nat)] kk.w λe w'=>e=.returned (.string dg)/\Below w1.heap.size w1 w'):=hid (λkk=>(lg.out kk.w).mono (λe w' h=>⟨h.1,kk.h.trans (h.2.mono kk.h.size)⟩));have hfin:Hid (∀kk:Bk w1,Below w.heap.size w kk.w):=hid (λkk=>yH.out.2.trans (kk.h.mono yH.out.2.size));go_upto_region 8 with fail
  refine zar (by kernel_rfl) (by kernel_rfl) ?_;repeat (go_big_quiet_step ((rename_i kk;exact(qh.out kk).mono (λe w' h=>⟨h.1,⟨w',h.2⟩,rfl⟩))))
  refine wpQuiet_nil ?_;intro _ hw';obtain⟨kq,hw''⟩:=hw';subst hw'';go_wp2;go_ret;exact⟨by rw[<-he.out];rfl,hfin.out kq⟩
 ·skip
  obtain⟨et,het⟩:∃e,S.B (S.escH tx)=e:=⟨_,rfl⟩;have jl:et.size<=10000000:=by rw[<-het,S.zav];have:=S.zc9 tx;omega
  have hSt:Hid (∀wx,Calls prog 146 #[.string tB] wx λe w'=>e=.returned (.string et)/\w'=wx):=hid (λwx=>by
   have:=zf3 tB wx (by rw[<-S.lda,dx.out];omega);rw[dx.out,het] at this;exact this)
  have bg:Hid (et.data.toList=S.escH tx):=hid (by rw[<-het,S.zaz]);clear het;obtain⟨wd,hwd⟩:=Qyy (zg0 inf);have hwl:=zuy inf;rw[hwd] at hwl;have hisz:iB.size<=1000000:=by rw[<-S.lda,fq.out];omega
  have gy:Hid (∀j,j<wd.length->∃c,inf[j]?=some c/\c≠32):=hid (by
   rw[<-hwd];exact λj hj=>z05 inf j hj)
  have jd:Hid (∀c,inf[wd.length]?=some c->c=32):=hid (by
   rw[<-hwd];exact λc hc=>zzc inf c hc)
  go_upto_region 11 with fail
  go_loop [6] (λiv=>∃k:Nat,k<=wd.length/\iv=.int .i64 k) (λiv=>wd.length-(intOf iv).toNat)
  case atStart=>exact⟨0,Qt _,rfl⟩
  case round=>
   obtain⟨k,hk,rfl⟩:=hrel;have qp:(0:Int)<=(k:Int):=by omega
   by_cases hlt:k<wd.length
   ·obtain⟨c,hc,hc32⟩:=gy.out k hlt;have hki:k<iB.size:=(by rw[<-S.lda,fq.out];omega);have hJ:(k:Int)<(iB.size:Int):=(by omega);have hg:iB[k]=c:=by
     have:=S.zad iB k hki;rw[fq.out,hc] at this;exact(Qy this).symm
    have hn:((iB[k].toNat:Int) != 32)=true:=by
     rw[hg,bne_iff_ne];intro e;exact hc32 (Qk.1 (Int.ofNat_inj.1 e))
    clear hc hg;go_wp2;go_round
    case rel=>exact⟨k+1,by omega,by go_num⟩
    case measure=>simp[intOf];omega
   ·have hkl:k=wd.length:=(by omega);subst hkl;have hcase:¬(wd.length:Int)<(iB.size:Int)\/((wd.length:Int)<(iB.size:Int)/\∃h:wd.length<iB.size,((iB[wd.length].toNat:Int) != 32)=false):=by
     by_cases h:wd.length<iB.size
     ·refine .inr ⟨by omega,h,?_⟩;have:=S.zad iB wd.length h;rw[fq.out] at this;rw[jd.out _ this];rfl
     ·exact .inl (by omega)
    by_cases hw0:wd=[]
    ·have he:=hid (hend.out ((⟨#[60,112,114,101,62,60,99,111,100,101,62]⟩:ByteArray)++et ++ ⟨#[60,47,99,111,100,101,62,60,47,112,114,101,62,10]⟩) (by simp[wrK,ByteArray.data_append,bg.out,hwd,hw0]));have hz:¬(0:Int)<(wd.length:Int):=(by rw[hw0];simp);clear hw0;rcases hcase with hcase|⟨hcase,hlt2,hne⟩ <;>
     (go_wp2_with fail
      refine(hSt.out w1).mono ?_;rintro e w2⟨rfl,rfl⟩;go_wp2;go_ret;exact⟨by rw[<-he.out];rfl,yH.out.2⟩)
    ·have hpos:0<wd.length:=Qbf.2 hw0;have hz:(0:Int)<(wd.length:Int):=(by omega);have hle:(wd.length:Int)<=(iB.size:Int):=(by rw[<-S.lda,fq.out];omega);obtain⟨xw,hxw⟩:=Qyy (iB.extract 0 wd.length);have hxd:xw.data.toList=wd:=(by rw[<-hxw,S.extract_data,fq.out,Nat.sub_zero,List.drop_zero,<-hwd,<-zy7]);obtain⟨ew,jm⟩:∃e,S.B (S.escH wd)=e:=⟨_,rfl⟩;have pq:ew.size<=10000000:=(by rw[<-jm,S.zav];have:=S.zc9 wd;omega);have hSw:Hid (∀wx,Calls prog 146 #[.string xw] wx λe w'=>e=.returned (.string ew)/\w'=wx):=hid (λwx=>by
      have:=zf3 xw wx (by rw[<-S.lda,hxd];omega);rw[hxd,jm] at this;exact this)
     have jy:Hid (ew.data.toList=S.escH wd):=hid (by rw[<-jm,S.zaz]);have he:=hid (hend.out ((⟨#[60,112,114,101,62,60,99,111,100,101,32,99,108,97,115,115,61,34]⟩:ByteArray)++ew ++ ⟨#[34,62]⟩ ++ et ++ ⟨#[60,47,99,111,100,101,62,60,47,112,114,101,62,10]⟩) (by simp[wrK,ByteArray.data_append,bg.out,jy.out,hwd,hw0]));haveI hNE:Nonempty (Bk w1):=⟨⟨w1,Below.refl _ _⟩⟩;have q3':∀kk:Bk w1,kk.w.cell? ⟨w.heap.size,3,none⟩=some (.string iB):=λkk=>(kk.h.cell (p:=⟨w.heap.size,3,none⟩) (World.block_lt_of_cell? _ _ q3)).trans q3;have qm:∀kk:Bk w1,kk.w.cell? ⟨w.heap.size,4,none⟩=some (.string tB):=λkk=>(kk.h.cell (p:=⟨w.heap.size,4,none⟩) (World.block_lt_of_cell? _ _ q4)).trans q4;have hfin:Hid (∀kk:Bk w1,Below w.heap.size w kk.w):=hid (λkk=>yH.out.2.trans (kk.h.mono yH.out.2.size));clear jm hxd hw0;rcases hcase with hcase|⟨hcase,hlt2,hne⟩ <;>
     (go_upto_region 14 with fail
      refine zar (by kernel_rfl) (by kernel_rfl) ?_;repeat (go_big_quiet_step ((rename_i kk;first|with_reducible exact(hSw.out kk.w).mono (λe w' h=>⟨h.1,kk,h.2⟩)|with_reducible exact(hSt.out kk.w).mono (λe w' h=>⟨h.1,kk,h.2⟩))))
      refine wpQuiet_nil ?_;intro _ hw';obtain⟨kq,hw''⟩:=hw';subst hw'';go_wp2;go_ret;exact⟨by rw[<-he.out];rfl,hfin.out kq⟩)
 ·skip
  have he:=hid (hend.out (⟨#[60,104,114,62,10]⟩) (by simp[wrK]));go_wp2;go_ret;exact⟨by rw[<-he.out];rfl,yH.out.2⟩
 ·skip
  have he:=hid (hend.out ((⟨#[60,113,117,111,116,101,62,10]⟩:ByteArray)++sB ++ ⟨#[60,47,113,117,111,116,101,62,10]⟩) (by simp[wrK,ByteArray.data_append,dh.out]));go_wp2;go_ret;exact⟨by rw[<-he.out];rfl,yH.out.2⟩
 ·skip
  obtain⟨et,het⟩:∃e,S.B (S.escH tx)=e:=⟨_,rfl⟩;have jl:et.size<=10000000:=by rw[<-het,S.zav];have:=S.zc9 tx;omega
  have hSt:Hid (∀wx,Calls prog 146 #[.string tB] wx λe w'=>e=.returned (.string et)/\w'=wx):=hid (λwx=>by
   have:=zf3 tB wx (by rw[<-S.lda,dx.out];omega);rw[dx.out,het] at this;exact this)
  have bg:Hid (et.data.toList=S.escH tx):=hid (by rw[<-het,S.zaz]);clear het;have he:=hid (hend.out (et) (by simp[wrK,bg.out]));go_wp2_with fail
  refine(hSt.out w1).mono ?_;rintro e w2⟨rfl,rfl⟩;go_wp2;go_ret;exact⟨by rw[<-he.out];rfl,yH.out.2⟩
 ·skip
  have he:=hid (hend.out (⟨#[10]⟩) (by simp[wrK]));go_wp2;go_ret;exact⟨by rw[<-he.out];rfl,yH.out.2⟩
 ·skip
  have he:=hid (hend.out (⟨#[60,98,114,62,10]⟩) (by simp[wrK]));go_wp2;go_ret;exact⟨by rw[<-he.out];rfl,yH.out.2⟩
 ·skip
  obtain⟨et,het⟩:∃e,S.B (S.escH tx)=e:=⟨_,rfl⟩;have jl:et.size<=10000000:=by rw[<-het,S.zav];have:=S.zc9 tx;omega
  have hSt:Hid (∀wx,Calls prog 146 #[.string tB] wx λe w'=>e=.returned (.string et)/\w'=wx):=hid (λwx=>by
   have:=zf3 tB wx (by rw[<-S.lda,dx.out];omega);rw[dx.out,het] at this;exact this)
  have bg:Hid (et.data.toList=S.escH tx):=hid (by rw[<-het,S.zaz]);clear het;have he:=hid (hend.out ((⟨#[60,99,111,100,101,62]⟩:ByteArray)++et ++ ⟨#[60,47,99,111,100,101,62]⟩) (by simp[wrK,ByteArray.data_append,bg.out]));go_wp2_with fail
  refine(hSt.out w1).mono ?_;rintro e w2⟨rfl,rfl⟩;go_wp2;go_ret;exact⟨by rw[<-he.out];rfl,yH.out.2⟩
 ·skip
  obtain⟨et,het⟩:∃e,S.B (S.escH inf)=e:=⟨_,rfl⟩;have jl:et.size<=10000000:=by rw[<-het,S.zav];have:=S.zc9 inf;omega
  have hSt:Hid (∀wx,Calls prog 146 #[.string iB] wx λe w'=>e=.returned (.string et)/\w'=wx):=hid (λwx=>by
   have:=zf3 iB wx (by rw[<-S.lda,fq.out];omega);rw[fq.out,het] at this;exact this)
  have bg:Hid (et.data.toList=S.escH inf):=hid (by rw[<-het,S.zaz]);clear het;have he:=hid (hend.out ((⟨#[60,97,32,104,114,101,102,61,34]⟩:ByteArray)++et ++ ⟨#[34,62]⟩ ++ sB ++ ⟨#[60,47,97,62]⟩) (by simp[wrK,ByteArray.data_append,dh.out,bg.out]));go_wp2_with fail
  refine(hSt.out w1).mono ?_;rintro e w2⟨rfl,rfl⟩;go_wp2;go_ret;exact⟨by rw[<-he.out];rfl,yH.out.2⟩
 ·skip
  obtain⟨et,het⟩:∃e,S.B (S.escH inf)=e:=⟨_,rfl⟩;have jl:et.size<=10000000:=by rw[<-het,S.zav];have:=S.zc9 inf;omega
  have hSt:Hid (∀wx,Calls prog 146 #[.string iB] wx λe w'=>e=.returned (.string et)/\w'=wx):=hid (λwx=>by
   have:=zf3 iB wx (by rw[<-S.lda,fq.out];omega);rw[fq.out,het] at this;exact this)
  have bg:Hid (et.data.toList=S.escH inf):=hid (by rw[<-het,S.zaz]);clear het;obtain⟨pl,hpl⟩:=Qyy (S.B (rPls ks));have ng:pl.size<=1000000:=by rw[<-hpl,S.zav];have:=zi8 ks;omega
  have jh:pl.data.toList=rPls ks:=by rw[<-hpl,S.zaz]
  obtain⟨ep,jq⟩:∃e,S.B (S.escH (rPls ks))=e:=⟨_,rfl⟩;have pz:ep.size<=10000000:=by rw[<-jq,S.zav];have:=S.zc9 (rPls ks);have:=zi8 ks;omega
  have hSp:Hid (∀wx,Calls prog 146 #[.string pl] wx λe w'=>e=.returned (.string ep)/\w'=wx):=hid (λwx=>by
   have:=zf3 pl wx (by omega);rw[jh,jq] at this;exact this)
  have kg:Hid (ep.data.toList=S.escH (rPls ks)):=hid (by rw[<-jq,S.zaz]);rw[hpl] at lq;clear jq hpl jh;have he:=hid (hend.out ((⟨#[60,105,109,103,32,115,114,99,61,34]⟩:ByteArray)++et ++ ⟨#[34,32,97,108,116,61,34]⟩ ++ ep ++ ⟨#[34,62]⟩) (by simp[wrK,ByteArray.data_append,bg.out,kg.out]));haveI hNE:Nonempty (Bk w1):=⟨⟨w1,Below.refl _ _⟩⟩;have q3':∀kk:Bk w1,kk.w.cell? ⟨w.heap.size,3,none⟩=some (.string iB):=λkk=>(kk.h.cell (p:=⟨w.heap.size,3,none⟩) (World.block_lt_of_cell? _ _ q3)).trans q3;have qj:∀kk:Bk w1,kk.w.cell? ⟨w.heap.size,6,none⟩=some (.slice ka kn kc):=λkk=>(kk.h.cell (p:=⟨w.heap.size,6,none⟩) (World.block_lt_of_cell? _ _ q6)).trans q6;have hfin:Hid (∀kk:Bk w1,Below w.heap.size w kk.w):=hid (λkk=>yH.out.2.trans (kk.h.mono yH.out.2.size));have qg:Hid (∀kk:Bk w1,Calls prog 101 #[.slice ka kn kc] kk.w λe w'=>e=.returned (.string pl)/\w'=kk.w):=hid (λkk=>lq.out kk.w (hfin.out kk));go_upto_region 39 with fail
  refine zar (by kernel_rfl) (by kernel_rfl) ?_;repeat (go_big_quiet_step ((rename_i kk;first|with_reducible exact(qg.out kk).mono (λe w' h=>⟨h.1,kk,h.2⟩)|with_reducible exact(hSp.out kk.w).mono (λe w' h=>⟨h.1,kk,h.2⟩)|with_reducible exact(hSt.out kk.w).mono (λe w' h=>⟨h.1,kk,h.2⟩))))
  refine wpQuiet_nil ?_;intro _ hw';obtain⟨kq,hw''⟩:=hw';subst hw'';go_wp2;go_ret;exact⟨by rw[<-he.out];rfl,hfin.out kq⟩
 ·skip
  have he:=hid (hend.out ((⟨#[60,101,109,62]⟩:ByteArray)++sB ++ ⟨#[60,47,101,109,62]⟩) (by simp[wrK,ByteArray.data_append,dh.out]));go_wp2;go_ret;exact⟨by rw[<-he.out];rfl,yH.out.2⟩
 ·skip
  have he:=hid (hend.out ((⟨#[60,115,116,114,111,110,103,62]⟩:ByteArray)++sB ++ ⟨#[60,47,115,116,114,111,110,103,62]⟩) (by simp[wrK,ByteArray.data_append,dh.out]));go_wp2;go_ret;exact⟨by rw[<-he.out];rfl,yH.out.2⟩
theorem zq6 (A:Nat->Prop)(w0:World)(hA:∀x,A x->x<w0.heap.size)(v:Value)(ns:List Rn)(h:RepN w0 A v ns):∀(w:World) (f:Bool),Below w0.heap.size w0 w->okRs ns->byRs ns<=1000000 ->
  Calls prog 69 #[v,.bool f] w λe w'=>e=.returned (.string (S.B (wrRs f ns)))/\Below w.heap.size w w':=by
 induction h with
 | nil=>
  intro w f hb ho hd;clear hb ho hd;go_enter func69,ntmps69;go_wp2;refine wp_loop_rounds 1 ?_;rw[rounds_succ];go_wp2;go_ret;exact⟨rfl,Below.refl _ _⟩
 | some b o cap ns kv ha hcap hc hkk ih=>
  intro w f hb ho hd;have hb0:=hA b ha;have hbs:=hb.size;have hbw:b<w.heap.size:=Qh hb0 hbs;have hnl:=zol ns;have hlen:ns.length<=1000000:=by omega
  have jh:=hid hc;have dw:=hid hkk;have jg:=hid ih;have jk:=hid hb;have jl:=hid hA;have dx:=hid hd;have jd:=hid ho;clear hc hkk ih hb hA ha ho;go_enter func69,ntmps69;go_wp2;go_loopw [5,6] (λt i wr=>∃k:Nat,k<=ns.length/\i=.int .i64 k/\t=.string (S.B (wrRs f (ns.take k)))/\Hid (Below w.heap.size w wr)) (λ_ i _=>ns.length-(intOf i).toNat)
  case atStart=>exact⟨0,Qt _,rfl,by simp[wrRs];rfl,hid (Below.refl _ _)⟩
  case round=>
   obtain⟨k,hk,rfl,rfl,hr⟩:=hrel;by_cases hlt:k<ns.length
   ·obtain⟨t,ht⟩:∃t,ns[k]?=some t:=⟨ns[k],Qg hlt⟩;have hct:=jh.out k t ht;have bg:=dw.out k t ht;have hgt:=zoz ns k t ht;have ihk:=jg.out k t ht;have dh:=z0y ns jd.out k t ht;have hsn:=zxj f ns k t ht;have htk:=zlo ns k;have hle:=zp3 f (ns.take k) (zx2 ns k jd.out);obtain⟨ka,kn,kc,hkv⟩:=bg.form;rw[hkv] at hct ihk bg;obtain⟨T,hT⟩:=Qyy (S.B (wrRs f (ns.take k)));have jq:T.size<=100000000:=(by rw[<-hT,S.zav];have:=dx.out;omega);obtain⟨X,hX⟩:=Qyy (S.B (wrR f t));have jm:X.size<=100000000:=(by rw[<-hX,S.zav];have:=z1u f t dh;have:=dx.out;omega);have hfin:Hid (T++X=S.B (wrRs f (ns.take (k+1)))):=hid (by rw[<-hT,<-hX,z2a,S.zaz,hsn]);rw[hT];have hbr:Below w0.heap.size w0 wr:=jk.out.trans (hr.out.mono hbs);have hwr:w0.heap.size<=wr.heap.size:=hbr.size;have hcell:∀j u,(rn7 t (.slice ka kn kc))[j]?=some u->wr.cell? ⟨b,o+k*7+j,none⟩=some u:=λj u hu=>(hbr.cell (p:=⟨b,o+k*7+j,none⟩) hb0).trans (hct j u hu);cases t with
    | nd kd n inf tx li ks=>
    have hby:byR (.nd kd n inf tx li ks)<=1000000:=(by have:=dx.out;omega);have hbk:byRs ks<=1000000:=(by simp only[byR] at hby;omega);have gy:=zsg kd n inf tx li ks ka kn kc f wr dh hby (λf' wx hbx=>ihk wx f' (hbr.trans (hbx.mono hwr)) (by simp only[okR] at dh;exact dh.2.2.2.2) hbk) (λwx hbx=>znp _ wx _ ks (bg.move (λx hx=>hx) (λx hx=>(hbr.trans (hbx.mono hwr)).block x (jl.out x hx))) (by omega));rw[hX] at gy;have gq:Hid (Calls prog 100 #[.agg #[.int .i64 0,.int .i64 kd,.int .i64 n,.string (S.B inf),.string (S.B tx),.int .i64 li,.slice ka kn kc],.bool f] wr λe w'=>e=.returned (.string X)/\Below wr.heap.size wr w'):=hid gy;have c0:wr.cell? ⟨b,o+k*7,none⟩=some (.int .i64 0):=hcell 0 _ rfl;have c1:wr.cell? ⟨b,o+k*7+1,none⟩=some (.int .i64 kd):=hcell 1 _ rfl;have c2:wr.cell? ⟨b,o+k*7+2,none⟩=some (.int .i64 n):=hcell 2 _ rfl;have c3:wr.cell? ⟨b,o+k*7+3,none⟩=some (.string (S.B inf)):=hcell 3 _ rfl;have c4:wr.cell? ⟨b,o+k*7+4,none⟩=some (.string (S.B tx)):=hcell 4 _ rfl;have c5:wr.cell? ⟨b,o+k*7+5,none⟩=some (.int .i64 li):=hcell 5 _ rfl;have c6:wr.cell? ⟨b,o+k*7+6,none⟩=some (.slice ka kn kc):=hcell 6 _ rfl;have jw:(k:Int)<(ns.length:Int):=(by omega);have hJ0:(0:Int)<=(k:Int):=(by omega);clear hct bg ihk hkv hsn hle htk hT ht hgt hX gy hcell hbr dh hby hbk;go_wp2_with (fail);refine gq.out.mono ?_;rintro e w1⟨rfl,hb1⟩;have fq:Hid (Below w.heap.size w w1):=hid (hr.out.trans (hb1.mono hr.out.size));clear hb1;go_wp2;go_roundw
    case rel=>exact⟨k+1,by omega,by go_num,by rw[hfin.out],fq⟩
    case measure=>simp[intOf];omega
   ·have hkl:k=ns.length:=(by omega);subst hkl;rw[Qbl];go_wp2;go_ret;exact⟨rfl,hr.out⟩
end Go.Proofs.YtlojgpkajkedeaaGreatDoor
