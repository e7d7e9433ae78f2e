import Derived.Test.YtlojgpkajkedeaaGreatDoorOE5
import Derived.Test.YtlojgpkajkedeaaGreatDoorORH
set_option maxHeartbeats 0
set_option maxRecDepth 100000
namespace Go.Proofs.YtlojgpkajkedeaaGreatDoor
open Go.RowKit Go.Proofs.Tryz
theorem zin (b m bg:Nat)(p0:Ln)(a:List Ln)(c:UInt8)(n:Nat)(info:Sb)(w:Sw)(P:Fz w b m (p0::a))(bz:b<w)(b6:1<=n)(b7:n<=1000000):Calls prog 96 #[.slice (some (b m)) (a.length+1) bg,.int .u8 (c.toNat:Int),n,info] w λe f=>e=.returned (.tuple #[.agg #[O,(3:Int),O,info,(S.B (S.Ef (S.Ap p0.1.data.toList) ((Ah a).take (S.Ev c n (Ah a))))),O,Sx],((min (S.Ev c n (Ah a)+1+1) (a.length+1):Nat):Int)])/\Below w w f:=by
 obtain⟨D,a7,ao,cc,bf⟩:=Rq w;have b4:=P.len;simp only[Qd]at b4;have bc:=P.below ao bz;have bd:=P.size 0 p0 rfl;have au:=S.Jz p0.1.data.toList;rw[S.lda]at au;have cn:tot (Cu a)<=1000000:=by
  have:=P.2;simp only[Cu,Qs,tot,List.sum_cons]at this ⊢;omega
 obtain⟨s,G⟩:=p0;dsimp only at bd au ⊢;obtain⟨j,av⟩:=Qyy (S.Ap s);rw[av]at au ⊢;have bq:U (∀al,Calls prog 88 #[s] al λe f=>e=.returned j/\f=al):=V (λal=>by
  have:=Mw s al bd;rw[av]at this;exact this)
 have ay:=V bc;have cb:=V bf;have a8:=V ao;have bv:=V a7;have ap:b<D:=Z;have aj:w<D.heap.size:=Z;clear a7 ao bf P bc av cc;go_enter func96,ntmps96;go_upto_region 1 with fail
 rw[<-bv.q];go_wp2;go_loopw [10,11,12] (λcd i _ wr=>∃d:Nat,d<=a.length/\i=.int .i64 ((d:Int)+1)/\cd=.string (S.B (S.Ef j ((Ah a).take d)))/\U ((∀q,q<d->((Ah a)[q]?.map (S.Jg c n))=some false)/\Below D D wr)) (λ_ i _ _=>a.length+1-(intOf i).toNat)
 case atStart=>exact⟨0,Qt _,rfl,rfl,V ⟨by intro q b2;omega,Sr⟩⟩
 case round=>
  obtain⟨d,ck,rfl,rfl,bb⟩:=hrel;obtain⟨F,o⟩:=bb.q;have ac:=V o;have co:w<wr.heap.size:=Qh aj o.size;have ak:=(o.block w aj).trans cb.q;have g:=V ak;clear bb;by_cases b5:d<a.length
  ·obtain⟨p,M⟩:∃p,a[d]?=some p:=⟨a[d],Qg b5⟩;have ai:(((s,G):Ln)::a)[d+1]?=some p:=by simpa using M
   have af:=(ay.q.1 (d+1) p ai).1;have az:=ay.q.size (d+1) p ai;have hd:=Jh a d p M;have y:=XA j (Cu a) d p.1 (by simp[Cu,M]);have ah:=OT j (Cu a) (d+1);have ar:dat (Cu a)=Ah a:=rfl;rw[ar]at y ah;have ag:=(ay.q.1 0 (s,G) rfl).1;have L:=S.Jz p.1.data.toList;rw[S.lda]at L;obtain⟨l,cp⟩:=p;dsimp only at af az hd y ag L;obtain⟨R,Q⟩:=Qyy (S.Ap l);obtain⟨A,aw⟩:=Qyy (min j R);have aa:=zl6 l c n wr az b6 b7;obtain⟨W,H⟩:=Qyy (S.Jg c n l);rw[H]at aa;have a6:U (Calls prog 141 #[l,.int .u8 (c.toNat:Int),n] wr λe f=>e=.returned W/\wr=f):=V (aa.mono (λe f ⟨u,x⟩=>⟨u,x.symm⟩));have b1:wr.cell? (b (m+(d+1)*2))=some (.string l):=(o.cell (p:=⟨b,m+(d+1)*2,none⟩) ap).trans af;have cg:(0:Int)<=(d:Int)+1:=Z;have bt:(d:Int)+1<(a.length:Int)+1:=Z;have cm:((d:Int)+1).toNat=d+1:=Z;obtain⟨C,E⟩:=Qyy (S.Ef j ((Ah a).take d));cases W
   ·have bw:U (∀q,q<d+1->((Ah a)[q]?.map (S.Jg c n))=some false):=V (by
     intro q b2;by_cases e:q=d
     ·subst e;rw[hd,Sq,H]
     exact F q Z)
    haveI ch:Nonempty (Bk wr):=⟨⟨wr,Sr⟩⟩;have a9:b<wr:=Qh ap o.size;have b0:wr.cell? (b m)=some (.string s):=(o.cell (p:=⟨b,m,none⟩) ap).trans (by simpa using ag);have ce:∀kk:Bk wr,kk.w.cell? (b m)=some (.string s):=λkk=>(kk.h.cell (p:=⟨b,m,none⟩) a9).trans b0;have cf:∀kk:Bk wr,kk.w.cell? (b (m+(d+1)*2))=some (.string l):=λkk=>(kk.h.cell (p:=⟨b,m+(d+1)*2,none⟩) a9).trans b1;have br:U (∀kk:Bk wr,Calls prog 88 #[s] kk.w λe f=>e=.returned j/\Below wr wr f):=V (λkk=>(bq.q kk.w).mono (λe f ⟨u,x⟩=>⟨u,by rw[x];exact kk.h⟩));have bs:U (∀kk:Bk wr,Calls prog 88 #[l] kk.w λe f=>e=.returned R/\Below wr wr f):=V (λkk=>by
     have:=Mw l kk.w az;rw[Q]at this;exact this.mono (λe f ⟨u,x⟩=>⟨u,by rw[x];exact kk.h⟩))
    obtain⟨t,ae⟩:=Qyy (S.B (l.data.toList.drop A));have bp:U (∀kk:Bk wr,Calls prog 132 #[l,A] kk.w λe f=>e=.returned t/\Below wr wr f):=V (λkk=>by
     have:=Z8 l A kk.w (by rw[Q]at L;omega);rw[ae]at this;exact this.mono (λe f ⟨u,x⟩=>⟨u,by rw[x];exact kk.h⟩))
    obtain⟨am,ab⟩:=Qyy (S.Ef j ((Ah a).take (d+1)));rw[E,ab,Q,aw]at y;rw[ab]at ah;rw[E];have ba:=congrArg List.length y;simp only[Qa,List.length_singleton]at ba;have bx:t.size=(l.data.toList.drop A).length:=(by rw[<-ae,S.Bc]);obtain⟨T,an⟩:=Qyy (S.B C++t);have ci:Op.stringOp .add (S.B C) t=pure (.string T):=(by rw[<-an];exact Nl _ _ (by rw[S.Bc];omega));have cj:Op.stringOp .add T ⟨#[10]⟩=pure (.string (S.B am)):=by
     rw[<-an,Nl _ _ (by rw[ByteArray.size_append,S.Bc];show C.length+t.size+1<=_;omega)];congr 2
     rw[y,<-ae];unfold S.B;apply ByteArray.ext
     simp[ByteArray.data_append]
    have cl:min (j:Int) (R:Int)=(A:Int):=Z;have bu:=V ab;have b8:U (∀kq:Bk wr,Below D D kq.w):=V (λkq=>ac.q.trans (kq.h.mono ac.q.size));clear F o M ai af hd y ah ar ag L Q aw aa H E ae ab ba bx an ak;go_wp2_with (fail);apply a6.m;rintro e f⟨rfl,rfl⟩;go_wp2_with (fail);refine I6 Sk Sk ?_;repeat (go_big_quiet_step ((rename_i kk;first|exact(br.q kk).mono (λe f r=>⟨r.1,⟨f,r.2⟩,rfl⟩)|exact(bs.q kk).mono (λe f r=>⟨r.1,⟨f,r.2⟩,rfl⟩)|exact(bp.q kk).mono (λe f r=>⟨r.1,⟨f,r.2⟩,rfl⟩))))
    refine wpQuiet_nil ?_;intro _ b9;obtain⟨kq,ca⟩:=b9;subst ca;go_wp2;go_roundw
    case rel=>exact⟨d+1,Z,by go_num,by rw[bu.q],V ⟨bw.q,b8.q kq⟩⟩
    case measure=>exact Sj
   have K:U (S.Ev c n (Ah a)=d):=V (Ya c n _ d F (by rw[hd,Sq,H];simp));obtain⟨k,z⟩:=Qyy (S.B C);rw[E,z];have bh:=X g.q 0 _ rfl;have bi:=X g.q 1 _ rfl;have bj:=X g.q 2 _ rfl;have bk:=X g.q 3 _ rfl;have bl:=X g.q 4 _ rfl;have bm:=X g.q 5 _ rfl;have bn:=X g.q 6 _ rfl;have bo:=Av g.q;have h:=V (I8 g.q (.int .i64 0) (.int .i64 3) (.int .i64 0) (.string info) (.string k) (.int .i64 0) (.slice none 0 0));have aq:=V (Iq (N:=w.heap.size) (a8.q.trans (ac.q.mono (Sm aj))) (Qc _) (.int .i64 0) (.int .i64 3) (.int .i64 0) (.string info) (.string k) (.int .i64 0) (.slice none 0 0));have ax:U (S.B (S.Ef j ((Ah a).take (S.Ev c n (Ah a))))=k):=V (by rw[K.q,E,z]);clear F o M ai af hd y ah ar ag L Q aw aa H E ak z;go_wp2_with (fail);apply a6.m;rintro e f⟨rfl,rfl⟩;go_wp2;refine Sqk (v:=.tuple #[.agg #[O,(3:Int),O,info,k,O,Sx],((d:Int)+1+1:Int)]) (by have G:=X h.q 0 _ rfl;have a0:=X h.q 1 _ rfl;have a1:=X h.q 2 _ rfl;have a2:=X h.q 3 _ rfl;have a3:=X h.q 4 _ rfl;have a4:=X h.q 5 _ rfl;have a5:=X h.q 6 _ rfl;simp[results,results96,go_sem,G,a0,a1,a2,a3,a4,a5]) rfl ?_;exact⟨by rw[ax.q,K.q,SI Z];rfl,aq.q⟩
  have b3:d=a.length:=Z;subst b3;have K:U (S.Ev c n (Ah a)=a.length):=V (Ya c n _ _ F (by rw[Qr (by rw[F4];exact Qc _)];simp));obtain⟨k,z⟩:=Qyy (S.B (S.Ef j ((Ah a).take a.length)));rw[z];have bh:=X g.q 0 _ rfl;have bi:=X g.q 1 _ rfl;have bj:=X g.q 2 _ rfl;have bk:=X g.q 3 _ rfl;have bl:=X g.q 4 _ rfl;have bm:=X g.q 5 _ rfl;have bn:=X g.q 6 _ rfl;have bo:=Av g.q;have h:=V (I8 g.q (.int .i64 0) (.int .i64 3) (.int .i64 0) (.string info) (.string k) (.int .i64 0) (.slice none 0 0));have aq:=V (Iq (N:=w.heap.size) (a8.q.trans (ac.q.mono (Sm aj))) (Qc _) (.int .i64 0) (.int .i64 3) (.int .i64 0) (.string info) (.string k) (.int .i64 0) (.slice none 0 0));have ax:U (S.B (S.Ef j ((Ah a).take (S.Ev c n (Ah a))))=k):=V (by rw[K.q,z]);have bt:¬(a.length:Int)+1<(a.length:Int)+1:=Z;clear F o ak z;go_wp2;refine Sqk (v:=.tuple #[.agg #[O,(3:Int),O,info,k,O,Sx],((a.length:Int)+1:Int)]) (by have G:=X h.q 0 _ rfl;have a0:=X h.q 1 _ rfl;have a1:=X h.q 2 _ rfl;have a2:=X h.q 3 _ rfl;have a3:=X h.q 4 _ rfl;have a4:=X h.q 5 _ rfl;have a5:=X h.q 6 _ rfl;simp[results,results96,go_sem,G,a0,a1,a2,a3,a4,a5]) rfl ?_;exact⟨by rw[ax.q,K.q,Nat.min_eq_right Z]<;>rfl,aq.q⟩
def Vg (C:List UInt8->List Rn->Prop):Prop:=∀(a:Sb) (w:Sw),a.size<=1000000 ->
 Calls prog 95 #[a] w λe d=>∃g f,e=.returned g/\Bv d (λh=>w.heap.size<=h/\h<d) g f/\U (C a f)/\Below w w d
theorem J9 {w:Sw}{N:Nat}(a d f g h j k:Value):(((((((w.setCell N a).setCell (N 1) d).setCell (N 2) f).setCell (N 3) g).setCell (N 4) h).setCell (N 5) j).setCell (N 6) k).heap.size=w.heap.size:=by simp[World.setCell]
theorem Ke {w:Sw}{A:Nat->Prop}{v:Value}{ns:List Rn}{N:Nat}(f:Bv w A v ns)(g:∀a,A a->a≠N)(h j k l m o p:Value):Bv (((((((w.setCell N h).setCell (N 1) j).setCell (N 2) k).setCell (N 3) l).setCell (N 4) m).setCell (N 5) o).setCell (N 6) p) A v ns:=
 f.move (λa d=>d) (λa d=>by
  have:=g a d;iterate 7 rw[Below.heap_setCell _ _ _ _ (by simpa using this)])
theorem zir (l:List (List UInt8))(a:List UInt8)(d:l≠[]):S.Df (l++[a])=S.Df l++10::a.drop (S.Ap a):=by
 induction l with
 |nil=>exact absurd rfl d
 |cons j g f=>
  cases g with
  |nil=>simp[S.Df]
  |cons k h=>
   have:=f Y;simp only[List.cons_append]at this ⊢;simp only[S.Df,this,Qp,List.cons_append]
theorem za7 (C:List UInt8->List Rn->Prop)(cd:Vg C)(b aj cr:Nat)(p0:Ln)(d:List Ln)(w:Sw)(a1:Fz w b aj (p0::d))(c0:b<w):Calls prog 99 #[.slice (some (b aj)) (d.length+1) cr] w λe g=>∃a5 T,e=.returned (.tuple #[Ob (.nd (S.Cr (Ah (p0::d))).1.kind (S.Cr (Ah (p0::d))).1.n [] [] 0 T) a5,((S.Cr (Ah (p0::d))).2:Nat)])/\Bv g (λm=>w.heap.size<=m/\m<g) a5 T/\U (C (S.Cr (Ah (p0::d))).1.text T)/\Below w w g:=by
 obtain⟨M,ce,bt,dc,cp⟩:=Rq w;have c7:=a1.len;simp only[Qd]at c7;have bw:=a1.below bt c0;have cn:=a1.size 0 p0 rfl;have ah:Ah (p0::d)=p0.1.data.toList::Ah d:=rfl;have ca:U (∀a,(S.Df ((Ah (p0::d)).take a)).length<=1000000):=V (λa=>by
  rw[<-Zt,Xz];have y:=join_le (Cu ((p0::d).take a));have q:=(a1.take a).2;rw[show dat (Cu ((p0::d).take a))=Ah ((p0::d).take a) from rfl]at y;omega)
 have bg:U (∀a,S.Dw (Ah d)=a->∀k,Lib.trimRightB (S.Df ((Ah (p0::d)).take (a+1))) 32=k->((Ah d)[a]?=none\/∃m,(Ah d)[a]?=some m/\S.Ez m=0)->S.Cr (Ah (p0::d))=(.mk 1 0 [] k false [],a+1)):=V (λa bi k x Q=>by
  unfold S.Cr;dsimp only;rw[ah,List.tail_cons,bi];rw[ah]at x;rw[x,List.getElem?_cons_succ];rcases Q with Q|⟨m,Q,q⟩
  ·rw[Q]
  rw[Q];dsimp only;rw[if_neg Z])
 have bn:U (∀a,S.Dw (Ah d)=a->∀k,Lib.trimRightB (S.Df ((Ah (p0::d)).take (a+1))) 32=k->∀m,(Ah d)[a]?=some m->0<S.Ez m->S.Cr (Ah (p0::d))=(.mk 2 (S.Ez m) [] k false [],a+1+1)):=V (λa bi k x m Q q=>by
  unfold S.Cr;dsimp only;rw[ah,List.tail_cons,bi];rw[ah]at x;rw[x,List.getElem?_cons_succ,Q];dsimp only;rw[if_pos q])
 obtain⟨b1,cc⟩:=Qyy (S.Cr (Ah (p0::d)));rw[cc]at bg bn ⊢;have bp:=Ur p0.1 M cn;have c1:M.cell? (b aj)=some (.string p0.1):=by simpa using (bw.1 0 p0 rfl).1
 have bf:S.Df ((Ah (p0::d)).take (0+1))=p0.1.data.toList.drop (S.Ap p0.1.data.toList):=by rw[ah];rfl
 rw[<-bf]at bp;have bq:U (Calls prog 128 #[p0.1] M λe g=>e=.returned (.string (S.B (S.Df ((Ah (p0::d)).take (0+1)))))/\M=g):=V (bp.mono (λe g ⟨y,q⟩=>⟨y,q.symm⟩));have cl:=V bw;have bs:=V cd;have bx:=V cp;have bu:=V bt;have cx:=V ce;have cg:b<M:=Z;have ai:w<M.heap.size:=Z;obtain⟨cq,af⟩:=p0;dsimp only at c1 bq cn;obtain⟨G,bo⟩:=Qyy (Ah (((cq,af):Ln)::d));have cu:U (∀a m,(Ah d)[a]?=some m->G.take (a+1+1)=G.take (a+1)++[m]/\G.take (a+1)≠[]):=V (λa m Q=>by
  rw[<-bo,ah];refine⟨?_,Y⟩;rw[Qz,Qz,Sv,Q];rfl)
 rw[bo]at bg bn bq ca;clear ce bt cp a1 bw dc bp bf ah cc cd bo;go_enter func99,ntmps99;go_upto_region 1 with fail
 rw[<-cx.q];go_wp2_with fail
 apply bq.m;rintro e g⟨rfl,rfl⟩;go_wp2;go_loopw [4,5,6,7] (λcs bz L _ wr=>∃a:Nat,a<=d.length/\bz=.int .i64 ((a:Int)+1)/\L=.int .i64 0/\cs=.string (S.B (S.Df (G.take (a+1))))/\U ((∀R,R<a->((Ah d)[R]?.map S.Hw)=some false)/\Below M M wr)) (λ_ bz _ _ _=>d.length+1-(intOf bz).toNat)
 case atStart=>exact⟨0,Qt _,rfl,rfl,rfl,V ⟨by intro R c4;omega,Sr⟩⟩
 case round=>
  obtain⟨a,bi,rfl,rfl,rfl,ck⟩:=hrel;obtain⟨aa,P⟩:=ck.q;obtain⟨F,db⟩:=Qzz (wr);subst db;have ar:=ca.q (a+1);have bv:=V P;clear ck;by_cases c8:a<d.length
  ·obtain⟨p,az⟩:∃p,d[a]?=some p:=⟨d[a],Qg c8⟩;have a0:(((cq,af):Ln)::d)[a+1]?=some p:=by simpa using az
   have ax:=(cl.q.1 (a+1) p a0).1;have a3:=cl.q.size (a+1) p a0;have hd:=Jh d a p az;have al:=cu.q a _ hd;obtain⟨u,di⟩:=p;dsimp only at ax a3 hd al;obtain⟨L,ac⟩:=Qyy (S.Ez u);obtain⟨an,ay⟩:=Qyy (S.Wd u);have au:=zni u F a3;have ap:=zlr u F a3;rw[ac]at au;rw[ay]at ap;have ak:S.Hw u=(decide (0<L)||an):=by rw[S.ZJ,ac,ay]
   have c9:L<=2:=by rw[<-ac];unfold S.Ez;split;omega;split<;>omega
   have cz:b<F:=Qh cg P.size;have c3:F.cell? (b (aj+(a+1)*2))=some (.string u):=(P.cell (p:=⟨b,aj+(a+1)*2,none⟩) cg).trans ax;have bh:U (Calls prog 143 #[u] F λe g=>e=.returned L/\F=g):=V (au.mono (λe g ⟨y,q⟩=>⟨y,q.symm⟩));have bl:U (Calls prog 144 #[u] F λe j=>e=.returned an/\j.cell? (b (aj+(a+1)*2))=some (.string u)/\w.heap.size<j.heap.size/\U (Below M M j)):=V (ap.mono (λe g ⟨y,q⟩=>⟨y,(q.cell (p:=⟨b,aj+(a+1)*2,none⟩) cz).trans c3,by have:=q.size;have:=bv.q.size;omega,V (bv.q.trans (q.mono bv.q.size))⟩));have dd:(0:Int)<=(a:Int)+1:=Z;have bf:(a:Int)+1<(d.length:Int)+1:=Z;have dg:((a:Int)+1).toNat=a+1:=Z;obtain⟨o,H⟩:=Qyy (S.Df (G.take (a+1)));rw[H]at ar ⊢;obtain⟨k,x⟩:=Qyy (Lib.trimRightB o 32);have bd:k.length<=1000000:=by rw[<-x];have:=S.Po o 32;omega
   by_cases ci:L=0
   ·subst ci;cases an
    ·have cy:U (∀R,R<a+1->((Ah d)[R]?.map S.Hw)=some false):=V (by
      intro R c4;by_cases e:R=a
      ·subst e;rw[hd,Sq,ak];rfl
      exact aa R Z)
     have cv:=Ur u F a3;obtain⟨rs,bj⟩:=Qyy (S.B (u.data.toList.drop (S.Ap u)));have cw:U (∀bk,Calls prog 128 #[u] bk λe g=>e=.returned rs/\bk=g):=V (λbk=>by
      have:=Ur u bk a3;rw[bj]at this;exact this.mono (λe g ⟨y,q⟩=>⟨y,q.symm⟩))
     have cb:S.Df (G.take (a+1+1))=o++10::u.data.toList.drop (S.Ap u):=(by rw[al.1,zir _ _ al.2,H]);have df:rs.size<=u.size:=(by rw[<-bj,S.Bc,Qf,S.lda];omega);obtain⟨bc,br⟩:=Qyy (S.B o ++ ⟨#[10]⟩);have de:Op.stringOp .add (S.B o) ⟨#[10]⟩=pure (.string bc):=(by rw[<-br];exact Nl _ _ (by rw[S.Bc];show o.length+1<=_;omega));have c2:Op.stringOp .add bc rs=pure (.string (S.B (S.Df (G.take (a+1+1))))):=by
      rw[<-br,Nl _ _ (by rw[ByteArray.size_append,S.Bc];show o.length+1+rs.size<=_;omega)];congr 2
      rw[cb,<-bj];unfold S.B;apply ByteArray.ext
      simp[ByteArray.data_append]
     obtain⟨b0,bm⟩:=Qyy (S.Df (G.take (a+1+1)));rw[bm]at c2;have ct:=V bm;clear aa P az a0 ax hd al ac ay au ap ak cv bj cb br H x bm;go_wp2_with (fail);apply bh.m;rintro e g⟨rfl,rfl⟩;go_wp2_with (fail);apply bl.m;rintro e j⟨rfl,ch,z,ag⟩;go_wp2_with (fail);refine(cw.q j).mono ?_;rintro e g⟨rfl,rfl⟩;go_wp2;go_roundw
     case rel=>exact⟨a+1,Z,by go_num,rfl,by rw[ct.q],V ⟨cy.q,ag.q⟩⟩
     case measure=>exact Sj
    have ae:S.Dw (Ah d)=a:=Vb _ a aa (by rw[hd,Sq,ak];simp);have E:=V (bg.q a ae k (by rw[H];exact x) (.inr ⟨_,hd,ac⟩));clear aa P az a0 ax hd al ac ay au ap ak H ae;go_wp2_with (fail);apply bh.m;rintro e g⟨rfl,rfl⟩;go_wp2_with (fail);apply bl.m;rintro e j⟨rfl,ch,z,av⟩;have a4:=V ((av.q.block w ai).trans bx.q);have ag:=V (bu.q.trans (av.q.mono (Sm ai)));have aq:U (Calls prog 130 #[(S.B o)] j λe g=>e=.returned (S.B k)/\j=g):=V (by
     have:=Wi (S.B o) j (by rw[S.Bc];exact ar);rw[S.Bq,x]at this;exact this.mono (λe g ⟨y,q⟩=>⟨y,q.symm⟩))
    have W:=V (bs.q (S.B k) j (by rw[S.Bc];exact bd));rw[S.Bq]at W;go_wp2_with (fail);apply aq.m;rintro e g⟨rfl,rfl⟩;go_wp2_with (fail);apply W.m;rintro e h⟨a5,T,rfl,K,ao,A⟩;obtain⟨r,t,s,rfl⟩:=K.form;have f:=(A.block w z).trans a4.q;have co:w<h.heap.size:=Qh z A.size;have b2:h.cell? w=some (.int .i64 0):=X f 0 _ rfl;have b3:h.cell? (w 1)=some (.int .i64 0):=X f 1 _ rfl;have b4:h.cell? (w 2)=some (.int .i64 0):=X f 2 _ rfl;have b5:h.cell? (w 3)=some (.string ⟨#[]⟩):=X f 3 _ rfl;have b6:h.cell? (w 4)=some (.string ⟨#[]⟩):=X f 4 _ rfl;have b7:h.cell? (w 5)=some (.int .i64 0):=X f 5 _ rfl;have b8:h.cell? (w 6)=some (.slice none 0 0):=X f 6 _ rfl;have b9:=Av f;have l:=V (I8 f (.int .i64 0) (.int .i64 1) (.int .i64 0) (.string ⟨#[]⟩) (.string ⟨#[]⟩) (.int .i64 0) (.slice r t s));have ab:Below w w h:=ag.q.trans (A.mono (Sm z));have aw:=V (Iq (N:=w.heap.size) ab (Qc _) (.int .i64 0) (.int .i64 1) (.int .i64 0) (.string ⟨#[]⟩) (.string ⟨#[]⟩) (.int .i64 0) (.slice r t s));have a2:=V (Ke K (N:=w.heap.size) (λm D e=>by have:=D.1;omega) (.int .i64 0) (.int .i64 1) (.int .i64 0) (.string ⟨#[]⟩) (.string ⟨#[]⟩) (.int .i64 0) (.slice r t s));have cf:w<=j.heap.size:=Sm z;clear f A K ab;go_wp2;refine Sqk (v:=.tuple #[.agg #[O,(1:Int),O,(),(),O,.slice r t s],.int .i64 ((a:Int)+1)]) (by have af:=X l.q 0 _ rfl;have a6:=X l.q 1 _ rfl;have a7:=X l.q 2 _ rfl;have a8:=X l.q 3 _ rfl;have a9:=X l.q 4 _ rfl;have ba:=X l.q 5 _ rfl;have bb:=X l.q 6 _ rfl;simp[results,results99,go_sem,af,a6,a7,a8,a9,ba,bb]) rfl ?_;exact⟨.slice r t s,T,by rw[E.q];rfl,a2.q.move (λm D=>⟨by have:=D.1;omega,by rw[J9];exact D.2⟩) (λ_ _=>rfl),V (by rw[E.q];exact ao.q),aw.q⟩
   have c6:(0:Int)<(L:Int):=Z;have ae:S.Dw (Ah d)=a:=Vb _ a aa (by rw[hd,Sq,ak,Sl (show 0<L by omega)];simp);have E:=bn.q a ae k (by rw[H];exact x) _ hd Z;rw[ac]at E;obtain⟨am,cj⟩:∃am:Int,(L:Int)=am:=⟨_,rfl⟩;rw[cj]at E bh c6;have cm:=V E;clear E;have E:=cm;have dh:IntKind.i64.wrap ((a:Int)+1+1)=(a:Int)+1+1:=by rw[Sqe];omega
   clear cm aa P az a0 ax hd al ac ay au ap ak H ae cj ci c9;go_wp2_with (fail);apply bh.m;rintro e g⟨rfl,rfl⟩;go_wp2_with (fail);apply bl.m;rintro e j⟨rfl,ch,z,av⟩;have a4:=V ((av.q.block w ai).trans bx.q);have ag:=V (bu.q.trans (av.q.mono (Sm ai)));have aq:U (Calls prog 130 #[(S.B o)] j λe g=>e=.returned (S.B k)/\j=g):=V (by
    have:=Wi (S.B o) j (by rw[S.Bc];exact ar);rw[S.Bq,x]at this;exact this.mono (λe g ⟨y,q⟩=>⟨y,q.symm⟩))
   have W:=V (bs.q (S.B k) j (by rw[S.Bc];exact bd));rw[S.Bq]at W;go_wp2_with (fail);apply aq.m;rintro e g⟨rfl,rfl⟩;go_wp2_with (fail);apply W.m;rintro e h⟨a5,T,rfl,K,ao,A⟩;obtain⟨r,t,s,rfl⟩:=K.form;have f:=(A.block w z).trans a4.q;have co:w<h.heap.size:=Qh z A.size;have b2:h.cell? w=some (.int .i64 0):=X f 0 _ rfl;have b3:h.cell? (w 1)=some (.int .i64 0):=X f 1 _ rfl;have b4:h.cell? (w 2)=some (.int .i64 0):=X f 2 _ rfl;have b5:h.cell? (w 3)=some (.string ⟨#[]⟩):=X f 3 _ rfl;have b6:h.cell? (w 4)=some (.string ⟨#[]⟩):=X f 4 _ rfl;have b7:h.cell? (w 5)=some (.int .i64 0):=X f 5 _ rfl;have b8:h.cell? (w 6)=some (.slice none 0 0):=X f 6 _ rfl;have b9:=Av f;have l:=V (I8 f (.int .i64 0) (.int .i64 2) (.int .i64 am) (.string ⟨#[]⟩) (.string ⟨#[]⟩) (.int .i64 0) (.slice r t s));have ab:Below w w h:=ag.q.trans (A.mono (Sm z));have aw:=V (Iq (N:=w.heap.size) ab (Qc _) (.int .i64 0) (.int .i64 2) (.int .i64 am) (.string ⟨#[]⟩) (.string ⟨#[]⟩) (.int .i64 0) (.slice r t s));have a2:=V (Ke K (N:=w.heap.size) (λm D e=>by have:=D.1;omega) (.int .i64 0) (.int .i64 2) (.int .i64 am) (.string ⟨#[]⟩) (.string ⟨#[]⟩) (.int .i64 0) (.slice r t s));have cf:w<=j.heap.size:=Sm z;clear f A K ab;go_wp2;refine Sqk (v:=.tuple #[.agg #[O,(2:Int),am,(),(),O,.slice r t s],.int .i64 ((a:Int)+1+1)]) (by have af:=X l.q 0 _ rfl;have a6:=X l.q 1 _ rfl;have a7:=X l.q 2 _ rfl;have a8:=X l.q 3 _ rfl;have a9:=X l.q 4 _ rfl;have ba:=X l.q 5 _ rfl;have bb:=X l.q 6 _ rfl;simp[results,results99,go_sem,af,a6,a7,a8,a9,ba,bb]) rfl ?_;exact⟨.slice r t s,T,by rw[E.q];rfl,a2.q.move (λm D=>⟨by have:=D.1;omega,by rw[J9];exact D.2⟩) (λ_ _=>rfl),V (by rw[E.q];exact ao.q),aw.q⟩
  have c5:a=d.length:=Z;subst c5;have ae:S.Dw (Ah d)=d.length:=Vb _ _ aa (by rw[Qr (by rw[F4];exact Qc _)];simp);obtain⟨o,H⟩:=Qyy (S.Df (G.take (d.length+1)));rw[H]at ar ⊢;obtain⟨k,x⟩:=Qyy (Lib.trimRightB o 32);have bd:k.length<=1000000:=by rw[<-x];have:=S.Po o 32;omega
  have E:=V (bg.q d.length ae k (by rw[H];exact x) (.inl (Qr (by rw[F4];exact Qc _))));have bf:¬(d.length:Int)+1<(d.length:Int)+1:=Z;have z:w<F.heap.size:=Qh ai P.size;have a4:=V ((P.block w ai).trans bx.q);have ag:=V (bu.q.trans (P.mono (Sm ai)));obtain⟨j,da⟩:=Qzz (F);subst da;clear aa P H ae;have aq:U (Calls prog 130 #[(S.B o)] j λe g=>e=.returned (S.B k)/\j=g):=V (by
   have:=Wi (S.B o) j (by rw[S.Bc];exact ar);rw[S.Bq,x]at this;exact this.mono (λe g ⟨y,q⟩=>⟨y,q.symm⟩))
  have W:=V (bs.q (S.B k) j (by rw[S.Bc];exact bd));rw[S.Bq]at W;go_wp2_with fail
  apply aq.m;rintro e g⟨rfl,rfl⟩;go_wp2_with fail
  apply W.m;rintro e h⟨a5,T,rfl,K,ao,A⟩;obtain⟨r,t,s,rfl⟩:=K.form;have f:=(A.block w z).trans a4.q;have co:w<h.heap.size:=Qh z A.size;have b2:h.cell? w=some (.int .i64 0):=X f 0 _ rfl;have b3:h.cell? (w 1)=some (.int .i64 0):=X f 1 _ rfl;have b4:h.cell? (w 2)=some (.int .i64 0):=X f 2 _ rfl;have b5:h.cell? (w 3)=some (.string ⟨#[]⟩):=X f 3 _ rfl;have b6:h.cell? (w 4)=some (.string ⟨#[]⟩):=X f 4 _ rfl;have b7:h.cell? (w 5)=some (.int .i64 0):=X f 5 _ rfl;have b8:h.cell? (w 6)=some (.slice none 0 0):=X f 6 _ rfl;have b9:=Av f;have l:=V (I8 f (.int .i64 0) (.int .i64 1) (.int .i64 0) (.string ⟨#[]⟩) (.string ⟨#[]⟩) (.int .i64 0) (.slice r t s));have ab:Below w w h:=ag.q.trans (A.mono (Sm z));have aw:=V (Iq (N:=w.heap.size) ab (Qc _) (.int .i64 0) (.int .i64 1) (.int .i64 0) (.string ⟨#[]⟩) (.string ⟨#[]⟩) (.int .i64 0) (.slice r t s));have a2:=V (Ke K (N:=w.heap.size) (λm D e=>by have:=D.1;omega) (.int .i64 0) (.int .i64 1) (.int .i64 0) (.string ⟨#[]⟩) (.string ⟨#[]⟩) (.int .i64 0) (.slice r t s));have cf:w<=j.heap.size:=Sm z;clear f A K ab;go_wp2;refine Sqk (v:=.tuple #[.agg #[O,(1:Int),O,(),(),O,.slice r t s],((d.length:Int)+1:Int)]) (by have af:=X l.q 0 _ rfl;have a6:=X l.q 1 _ rfl;have a7:=X l.q 2 _ rfl;have a8:=X l.q 3 _ rfl;have a9:=X l.q 4 _ rfl;have ba:=X l.q 5 _ rfl;have bb:=X l.q 6 _ rfl;simp[results,results99,go_sem,af,a6,a7,a8,a9,ba,bb]) rfl ?_;exact⟨.slice r t s,T,by rw[E.q];rfl,a2.q.move (λm D=>⟨by have:=D.1;omega,by rw[J9];exact D.2⟩) (λ_ _=>rfl),V (by rw[E.q];exact ao.q),aw.q⟩
def Ec (k:Int)(t:List UInt8)(a:Bool):List UInt8:=if k=3 then t else if k=6 then (if a=true then [108,111,111,115,101]else [116,105,103,104,116])else []
mutual
def Fx (C:List UInt8->List Rn->Prop) (z:Int):S.Ac->Rn->Prop
 |.at_ f a n i g m k,.nd j o h r l d=>j=a/\o=n/\h=i/\r=Ec a g m/\l=z+f/\(if a=1\/a=2 then C g d else Bb C (z+f) k d)
def Bb (C:List UInt8->List Rn->Prop) (z:Int):List S.Ac->List Rn->Prop
 |[],[]=>True
 |b::p,n::q=>Fx C z b n/\Bb C z p q
 |[],_::_=>False
 |_::_,[]=>False
end
theorem Bb.append {C:List UInt8->List Rn->Prop}{z:Int}{a b:List S.Ac}{c f:List Rn}(d:Bb C z a c)(g:Bb C z b f):Bb C z (a++b) (c++f):=by
 induction a generalizing c with
 |nil=>
  cases c with
  |nil=>exact g
  |cons k j=>simp only[Bb]at d
 |cons m j h=>
  cases c with
  |nil=>simp only[Bb]at d
  |cons k l=>
   simp only[Bb,List.cons_append]at d ⊢;exact⟨d.1,h d.2⟩
def L9 (C:List UInt8->List Rn->Prop)(z:Int)(b:S.Ac)(ns:List Rn):Prop:=if b.kind=1\/b.kind=2 then C b.text ns else Bb C z b.Ab ns
theorem zio {C:List UInt8->List Rn->Prop}{z k:Int}{b:S.Ac}{ns:List Rn}(a:L9 C (z+k) b ns):Fx C z (b.put k) (.nd b.kind b.n b.info (Ec b.kind b.text b.Ai) (z+k) ns):=by
 cases b
 simp only[S.Ac.put,Fx];exact⟨rfl,rfl,rfl,rfl,trivial,a⟩
def Oi (C:List UInt8->List Rn->Prop)(d:Nat):Prop:=∀(b j g:Nat) (a:List Ln) (m:Int) (w:Sw),a.length<=g->b<w.heap.size->Fz w b j a->Num m a->bytes (Ah a)<d ->
 Calls prog 47 #[.slice (some (b j)) a.length g] w λe f=>∃k h,e=.returned (.tuple #[k,.bool (S.Ag d (Ah a)).2])/\Bv f (λl=>w.heap.size<=l/\l<f) k h/\U (Bb C m (S.Ag d (Ah a)).1 h)/\Below w w f
theorem Num.XC {z:Int}{l:List Ln}(f:Num z l)(s:Sb)(d:Int)(k:d=z+(l.length:Int)):Num z (l++[(s,d)]):=by
 intro i j a;by_cases h:i<l.length
 ·rw[Qbd h]at a;exact f i j a
 rw[Qu Z]at a;have g:i-l.length=0:=by have:=(Qb.1 a).1;simp at this;omega
 rw[g]at a;simp at a;subst a;show d=_;omega
theorem zmk (l:List (List UInt8))(k:Nat)(d:∀a,a<k->(l[a]?.map S.Cz)=some true)(f:(l[k]?.map S.Cz)≠some true):S.Bn l=(l.take k).map S.Kl:=by
 induction l generalizing k with
 |nil=>simp[S.Bn]
 |cons g o j=>
  cases k with
  |zero=>
   have:¬S.Cz g=true:=by simpa using f
   simp[S.Bn,this]
  |succ k=>
   have h:S.Cz g=true:=by simpa using d 0 Z
   rw[S.Bn,if_pos h,j k (λa m=>by simpa using d (a+1) Z) (by simpa using f)];rfl
theorem Y7 (l:List Ln)(p:Ln):tot (Cu (l++[p]))=tot (Cu l)+(p.1.size+1):=by simp[tot,Cu]
structure UA (w W0:Sw)(ls:List Ln)(z:Int)(k:Nat)(os:List Ln)(a:So)(cp:Nat)(wr:Sw):Prop where
 len:os.length=k
 all:∀j,j<k->((Ah ls)[j]?.map S.Cz)=some true
 spec:Ah os=((Ah ls).take k).map S.Kl
 small:tot (Cu os)<=tot (Cu (ls.take k))
 num:Num z os
 own:wr.ownsRow W0 116 2 (.slice a os.length cp) os.length (Ja os)
 below:Below W0 W0 wr
theorem zdk (C:List UInt8->List Rn->Prop)(az:Nat)(ar:Oi C az)(b Q ci:Nat)(d:List Ln)(z:Int)(w:Sw)(av:Fz w b Q d)(b5:Num z d)(c1:b<w)(b7:((Ah d)[0]?.map S.Cz)=some true)(hd:bytes (S.Bn (Ah d))<az):Calls prog 97 #[.slice (some (b Q)) d.length ci] w λe y=>∃ay af,e=.returned (.tuple #[Ob (.nd 5 0 [] [] 0 af) ay,((S.Bn (Ah d)).length:Nat)])/\Bv y (λA=>w.heap.size<=A/\A<y) ay af/\U (Bb C z (S.Ag az (S.Bn (Ah d))).1 af)/\Below w w y:=by
 obtain⟨i0,c5,c6,c7,c8⟩:=info_parts Tryz.Zm;obtain⟨R,bz,a4,dp,cf⟩:=Rq w;have d2:=av.len;have d5:=av.2;have ca:=av.below a4 c1;have aj:=V ca;have dd:=V b5;have cv:=V ar;have dn:=V cf;have cz:=V a4;have cx:=V bz;have di:=V b7;have c3:=V hd;have au:b<R:=Z;have bi:w<R.heap.size:=Z;clear bz a4 cf av ca dp ar b7 hd b5;go_enter func97,ntmps97;go_upto_region 1 with fail
 rw[<-cx.q];go_wp2;go_loopw [4,5,6,7] (λdr bk _ _ wr=>∃(a bj:Nat) (an:So) (ah:Nat),a<=d.length/\bk=.int .i64 a/\dr=.slice an bj ah/\U (∃k,bj=k.length/\UA w R d z a k an ah wr)) (λ_ bk _ _ _=>d.length-(intOf bk).toNat)
 case atStart=>exact⟨0,0,none,0,Qt _,rfl,rfl,V ⟨[],rfl,rfl,by intro P ba;omega,by simp[Ah,dat,Cu],by simp[tot,Cu],λi p l=>by simp at l,Sqg _ _ _ _,Sr⟩⟩
 case round=>
  obtain⟨a,bj,an,ah,d0,rfl,rfl,b9⟩:=hrel;obtain⟨k,db,ap⟩:=b9.q;subst db;have g:=V ap;have dx:b<wr:=Qh au ap.below.size;have ch:R<=wr.heap.size:=ap.below.size;have d3:k.length+1<=1000001:=by have:=ap.len;omega
  clear b9 ap;by_cases t:((Ah d)[a]?.map S.Cz)=some true
  ·have bb:a<d.length:=by
    rcases Nat.lt_or_ge a d.length with l|l
    ·exact l
    rw[Qr (by rw[F4];exact l)]at t;simp at t
   obtain⟨p,u⟩:∃p,d[a]?=some p:=⟨d[a],Qg bb⟩;have hd:=Jh d a p u;rw[hd,Sq]at t;have m:S.Cz p.1.data.toList=true:=Qy t;have ab:=(aj.q.1 a p u).1;have a7:=(aj.q.1 a p u).2;have al:=aj.q.size a p u;have bc:=dd.q a p u;obtain⟨r,G⟩:=p;dsimp only at hd m ab a7 al bc;have dk:∃x,S.Aq r=62::x:=by
    unfold S.Cz Lib.hasPrefix at m;cases ak:S.Aq r.data.toList with
    |nil=>rw[ak]at m;simp at m
    |cons c x=>rw[ak]at m;simp at m;subst m;exact⟨x,rfl⟩
   obtain⟨x,ak⟩:=dk;obtain⟨bl,b8,dj,_,d1,_,_,bx⟩:=Rl r al 62 x ak;obtain⟨s,ax⟩:=Qyy (S.B (S.Kl r));obtain⟨j,bg⟩:=Qyy (bl.extract 1 bl.size);have cb:j.data.toList=x:=by rw[<-bg,S.Iw,b8];rfl
   have bh:S.Kl r=Lib.trimPrefix x [32]:=by unfold S.Kl;rw[ak];rfl
   have d6:s.size<=r.size:=by
    rw[<-ax,S.Bc,bh];have:(Lib.trimPrefix x [32]).length<=x.length:=(by unfold Lib.trimPrefix;split<;>simp);omega
   have aa:=Yw r wr al;rw[m]at aa;have a2:U (Calls prog 92 #[r] wr λe y=>e=.returned true/\wr=y):=V (aa.mono (λe y ⟨W,a0⟩=>⟨W,a0.symm⟩));have cw:=V (bx wr);have a5:=g.q.below;have c2:wr.cell? (b (Q+a*2))=some (.string r):=(a5.cell (p:=⟨b,Q+a*2,none⟩) au).trans ab;have dy:wr.cell? (b (Q+a*2+1))=some (.int .i64 G):=(a5.cell (p:=⟨b,Q+a*2+1,none⟩) au).trans a7;have cu:(0:Int)<=(a:Int):=Z;have bw:(a:Int)<(d.length:Int):=Z;have dw:(1:Int)<=(bl.size:Int):=Z;have dg:=V (λaq=>g.q.own.alloc aq);have dc:U (∀P v,([Value.string s,G]:List Value)[P]?=some v->(wr.alloc (.cells #[s,G] 116)).cell? ((wr:Addr).add P)=some v):=V (λP v ba=>World.news_of_block (Ak _ _) P v (by exact ba));have df:U (∀v∈([Value.string s,G]:List Value),v.oneCell'=true):=V (by
    intro v ce;simp at ce;rcases ce with rfl|rfl<;>rfl)
   have dl:U (∀aq L ag am,am.ownsRow R 116 2 (.slice (some ⟨L,0,none⟩) (k.length+1) ag) (k.length+1) (Ja k++[.string s,.int .i64 G])->(wr.alloc aq).grownBy am (Value.slice an k.length ah).ownBlock->UA w R d z (a+1) (k++[(s,G)]) (some ⟨L,0,none⟩) ag am):=V (λaq L ag am de c4=>by
    have c9:=g.q.own.lt;refine⟨by rw[Qa,g.q.len];rfl,?_,?_,?_,g.q.num.XC s G (by rw[g.q.len];exact bc),?_,?_⟩
    ·intro P ba;by_cases e:P=a
     ·subst e;rw[hd,Sq,m]
     exact g.q.all P Z
    ·rw[Sv,hd];simp only[Option.toList_some,Qv,Qs,List.map_nil,<-g.q.spec];rw[<-ax];simp[Ah,dat,Cu,S.Bq]
    ·have e:d.take (a+1)=d.take a++[(r,G)]:=(by rw[Sv,u];rfl);rw[e,Y7,Y7];have:=g.q.small;dsimp only;omega
    ·rw[Qa,Yh];exact de
    exact Sqi (g.q.below.alloc ch aq) c4 (by simp;omega) (λdq m=>(c9 dq m).1))
   have d4:=V bg;have ae:=V cb;have cd:=V bh;have cc:=V ax;clear u hd t m ab a7 ak b8 bx cb bh ax aa a5 bc dj;go_wp2_with (fail);apply a2.m;rintro e y⟨rfl,rfl⟩;go_wp2_with (fail);apply cw.m;rintro e y⟨rfl,rfl⟩;go_upto_region 7 with fail
   obtain⟨T,b1⟩:∃T:Bool,Lib.hasPrefix x [32]=T:=⟨_,rfl⟩;have ai:=V b1;clear b1 bg;go_cut [35] (λds bm=>ds=.bool T/\wr=bm)
   case first=>
    cases x with
    |nil=>
     have K:U (T=false):=V (by rw[<-ai.q];rfl);have bu:j.toList=[]:=by
      have:=ae.q;rw[ByteArray.toList_eq];exact this
     go_wp2;go_meet;exact⟨by rw[K.q],rfl⟩
    |cons A du=>
     have ct:0<j.size:=(by rw[<-S.lda,ae.q];simp);have q:j[0]=A:=by
      have W:=S.Bz j 0 ct;rw[ae.q]at W;simpa using W.symm
     have bu:¬j.toList=[]:=by
      have:=ae.q;rw[ByteArray.toList_eq,this];simp
     have cr:U (j.toList.isEmpty=false):=V (by
      cases l:j.toList with
      |nil=>exact absurd l bu
      |cons _ _=>rfl)
     have dv:(0:Int)<(j.size:Int):=Z;by_cases f:A=32
     ·have K:U (T=true):=V (by rw[<-ai.q,f];rfl);have cq:((j[0].toNat:Int) == 32)=true:=(by rw[q,f];rfl);clear q;go_wp2;go_meet;exact⟨by rw[K.q,cr.q];rfl,rfl⟩
     have K:U (T=false):=V (by rw[<-ai.q];show ((32 == A)&&_)=false;rw[Qe.2 (Ne.symm f)];rfl);have cq:((j[0].toNat:Int) == 32)=false:=by
      rw[Qe,q];intro e;exact f (Qk.1 (by show A.toNat=32;omega))
     clear q;go_wp2;go_meet;exact⟨by rw[K.q],rfl⟩
   case rest=>
   obtain⟨rfl,rfl⟩:=hcut;go_upto_if 35 with fail
   go_cut [7] (λdt bm=>dt=.string s/\wr=bm)
   case first=>
    cases T
    ·have K:U (j=s):=V (by
      rw[<-cc.q,cd.q,Lib.trimPrefix,if_neg (by rw[ai.q];simp),<-ae.q,S.El])
     go_wp2;go_meet;exact⟨by rw[K.q],rfl⟩
    have W:(1:Int)<=(j.size:Int):=by
     have:=ai.q;cases x with
     |nil=>cases this
     |cons A du=>have l:=S.lda j;rw[ae.q]at l;simp at l;omega
    have K:j.extract 1 j.size=s:=by
     apply ByteArray.ext
     apply Array.toList_inj.1
     rw[S.Iw,ae.q,<-cc.q,cd.q,Lib.trimPrefix,if_pos ai.q,S.Bq];rfl
    go_wp2;go_meet;exact⟨by first|rfl|rw[K],rfl⟩
   case rest=>
   obtain⟨rfl,rfl⟩:=hcut;go_wp2_with (at_builtin;refine wpList_append_lies _ I _ _ 83 I R 116 i0 (.agg #[(),O]) 2 24 underlying83 c5 c6 c7 c8 I Z (.slice an k.length ah) k.length (Ja k) I (dg.q _) wr 1 1 [.string s,.int .i64 G] I I dc.q df.q Z (by unfold maxLen;omega) Z (by simp;omega) ((wr:Nat)+1) Y ?_)
   intro L ag am b6 b3 cy da;have ar:=V (dl.q _ L ag am b6 b3);clear b6 b3 cy da;go_wp2;go_roundw
   case rel=>exact⟨a+1,k.length+1,some ⟨L,0,none⟩,ag,Z,by go_num,rfl,V ⟨k++[(s,G)],Y,ar.q⟩⟩
   case measure=>exact Sj
  have bd:=zmk (Ah d) a g.q.all t;have aw:U (S.Bn (Ah d)=Ah k):=V (by rw[bd,g.q.spec]);have b4:U ((S.Bn (Ah d)).length=a):=V (by rw[aw.q,F4,g.q.len]);have dh:0<k.length:=by
   rw[g.q.len];rcases Nat.eq_zero_or_pos a with l|l
   ·rw[l]at t;exact absurd di.q t
   exact l
  obtain⟨L,rfl,b2,a9,a8,a3⟩:=Z0 g.q.own (by have:=g.q.small;have:=(aj.q.take a).2;omega) dh;have bv:=V (cv.q L 0 ah k z wr a8 a9 a3 g.q.num (by rw[<-aw.q];exact c3.q));have M:w<wr.heap.size:=Qh bi ch;have cg:=V ((g.q.below.block w bi).trans dn.q);have b0:=V (cz.q.trans (g.q.below.mono (Sm bi)));by_cases bb:a<d.length
  ·obtain⟨p,u⟩:∃p,d[a]?=some p:=⟨d[a],Qg bb⟩;have hd:=Jh d a p u;rw[hd,Sq]at t;have m:S.Cz p.1.data.toList=false:=by
    cases l:S.Cz p.1.data.toList
    ·rfl
    rw[l]at t;exact absurd rfl t
   have ab:=(aj.q.1 a p u).1;have al:=aj.q.size a p u;obtain⟨r,G⟩:=p;dsimp only at hd m ab al;have aa:=Yw r wr al;rw[m]at aa;have a2:U (Calls prog 92 #[r] wr λe y=>e=.returned false/\wr=y):=V (aa.mono (λe y ⟨W,a0⟩=>⟨W,a0.symm⟩));have c2:wr.cell? (b (Q+a*2))=some (.string r):=(g.q.below.cell (p:=⟨b,Q+a*2,none⟩) au).trans ab;have cu:(0:Int)<=(a:Int):=Z;have bw:(a:Int)<(d.length:Int):=Z;clear bd t hd m ab aa u a3 b2 a9 a8;go_wp2_with (fail);apply a2.m;rintro e y⟨rfl,rfl⟩;go_wp2_with (fail);apply bv.m;rintro e h⟨ay,af,rfl,ac,a1,H⟩;obtain⟨D,F,E,rfl⟩:=ac.form;have f:=(H.block w M).trans cg.q;have dm:w<h.heap.size:=Qh M H.size;have cj:h.cell? w=some (.int .i64 0):=X f 0 _ rfl;have ck:h.cell? (w 1)=some (.int .i64 0):=X f 1 _ rfl;have cl:h.cell? (w 2)=some (.int .i64 0):=X f 2 _ rfl;have cm:h.cell? (w 3)=some (.string ⟨#[]⟩):=X f 3 _ rfl;have cn:h.cell? (w 4)=some (.string ⟨#[]⟩):=X f 4 _ rfl;have co:h.cell? (w 5)=some (.int .i64 0):=X f 5 _ rfl;have cp:h.cell? (w 6)=some (.slice none 0 0):=X f 6 _ rfl;have cs:=Av f;have o:=V (I8 f (.int .i64 0) (.int .i64 5) (.int .i64 0) (.string ⟨#[]⟩) (.string ⟨#[]⟩) (.int .i64 0) (.slice D F E));have ao:Below w w h:=b0.q.trans (H.mono (Sm M));have a6:=V (Iq (N:=w.heap.size) ao (Qc _) (.int .i64 0) (.int .i64 5) (.int .i64 0) (.string ⟨#[]⟩) (.string ⟨#[]⟩) (.int .i64 0) (.slice D F E));have bf:=V (Ke ac (N:=w.heap.size) (λA q e=>by have:=q.1;omega) (.int .i64 0) (.int .i64 5) (.int .i64 0) (.string ⟨#[]⟩) (.string ⟨#[]⟩) (.int .i64 0) (.slice D F E));have c0:w<=wr.heap.size:=Sm M;clear f H ac ao;go_wp2;refine Sqk (v:=.tuple #[.agg #[O,(5:Int),O,(),(),O,.slice D F E],a]) (by have bn:=X o.q 0 _ rfl;have bo:=X o.q 1 _ rfl;have bp:=X o.q 2 _ rfl;have bq:=X o.q 3 _ rfl;have br:=X o.q 4 _ rfl;have bs:=X o.q 5 _ rfl;have bt:=X o.q 6 _ rfl;simp[results,results97,go_sem,bn,bo,bp,bq,br,bs,bt]) rfl ?_;exact⟨.slice D F E,af,by rw[b4.q];rfl,bf.q.move (λA q=>⟨by have:=q.1;omega,by rw[J9];exact q.2⟩) (λ_ _=>rfl),V (by rw[aw.q];exact a1.q),a6.q⟩
  have bw:¬(a:Int)<(d.length:Int):=Z;clear bd t a3 b2 a9 a8;go_wp2_with fail
  apply bv.m;rintro e h⟨ay,af,rfl,ac,a1,H⟩;obtain⟨D,F,E,rfl⟩:=ac.form;have f:=(H.block w M).trans cg.q;have dm:w<h.heap.size:=Qh M H.size;have cj:h.cell? w=some (.int .i64 0):=X f 0 _ rfl;have ck:h.cell? (w 1)=some (.int .i64 0):=X f 1 _ rfl;have cl:h.cell? (w 2)=some (.int .i64 0):=X f 2 _ rfl;have cm:h.cell? (w 3)=some (.string ⟨#[]⟩):=X f 3 _ rfl;have cn:h.cell? (w 4)=some (.string ⟨#[]⟩):=X f 4 _ rfl;have co:h.cell? (w 5)=some (.int .i64 0):=X f 5 _ rfl;have cp:h.cell? (w 6)=some (.slice none 0 0):=X f 6 _ rfl;have cs:=Av f;have o:=V (I8 f (.int .i64 0) (.int .i64 5) (.int .i64 0) (.string ⟨#[]⟩) (.string ⟨#[]⟩) (.int .i64 0) (.slice D F E));have ao:Below w w h:=b0.q.trans (H.mono (Sm M));have a6:=V (Iq (N:=w.heap.size) ao (Qc _) (.int .i64 0) (.int .i64 5) (.int .i64 0) (.string ⟨#[]⟩) (.string ⟨#[]⟩) (.int .i64 0) (.slice D F E));have bf:=V (Ke ac (N:=w.heap.size) (λA q e=>by have:=q.1;omega) (.int .i64 0) (.int .i64 5) (.int .i64 0) (.string ⟨#[]⟩) (.string ⟨#[]⟩) (.int .i64 0) (.slice D F E));have c0:w<=wr.heap.size:=Sm M;clear f H ac ao;go_wp2;refine Sqk (v:=.tuple #[.agg #[O,(5:Int),O,(),(),O,.slice D F E],a]) (by have bn:=X o.q 0 _ rfl;have bo:=X o.q 1 _ rfl;have bp:=X o.q 2 _ rfl;have bq:=X o.q 3 _ rfl;have br:=X o.q 4 _ rfl;have bs:=X o.q 5 _ rfl;have bt:=X o.q 6 _ rfl;simp[results,results97,go_sem,bn,bo,bp,bq,br,bs,bt]) rfl ?_;exact⟨.slice D F E,af,by rw[b4.q];rfl,bf.q.move (λA q=>⟨by have:=q.1;omega,by rw[J9];exact q.2⟩) (λ_ _=>rfl),V (by rw[aw.q];exact a1.q),a6.q⟩
theorem S.zkr (l:List UInt8)(n:Nat)(a:S.Ar l=true):S.Ar (l.drop n)=true:=by
 induction l generalizing n with
 |nil=>simpa using a
 |cons g f d=>
  cases n with
  |zero=>exact a
  |succ n=>
   rw[List.drop_succ_cons];apply d
   unfold S.Ar S.Ap at a ⊢;rw[Sd]at a ⊢;simp only[S.cnt,Qd]at a;split at a<;>omega
theorem S.XY (l:List UInt8)(g:(S.Ae l).ok=true)(a:(S.Ae l).empty=true):S.Ar (l.drop (S.Ae l).Ao)=true:=by
 by_cases f:S.Bh (S.Aq l)=0\/S.Fa (S.Aq l) (S.Bh (S.Aq l))=false
 ·rw[S.Vi _ f]at g;simp at g
 rw[S.Ve _ f]at a ⊢;simp only at a ⊢;have h:S.Aq l≠[]:=by intro e;apply f;left;rw[e];rfl
 have d:¬4<=S.Ap l:=λd=>h (S.Xf l d);rw[S.Yt l d]at a ⊢;rw[Qbb]at a;rw[<-Qbb];exact S.zkr _ _ a
theorem S.zej (a:Nat)(d:List UInt8)(f:S.Ar d=true):S.Ag a [d]=S.Ag a [[]]:=by
 cases a with
 |zero=>rfl
 |succ a=>
  have g:S.Az [d]=1:=by simp[S.Az,f]
  have h:S.Az [([]:List UInt8)]=1:=I;simp only[S.Ag,g,h];rfl
theorem S.zlj (m:Nat)(d:List UInt8)(r:List (List UInt8)):max 1 (Fu (d::r.takeWhile (Du m)))=S.Da m (d::r):=by
 unfold S.Da;rw[List.tail_cons,KL,U9];by_cases a:Fu (r.takeWhile (Du m))=0
 ·rw[if_pos a,if_pos a];split<;>omega
 rw[if_neg a,if_neg a];omega
def Od (m:S.Mark)(row:List (List UInt8)):Nat:=if m.empty=true/\(row[1]?.map S.Ar)=some true then 1 else S.Da m.Ao row
theorem Yg (m:S.Mark)(a:List UInt8)(r:List (List UInt8)):(S.Ay m (a::r)).length=Od m (a::r)/\1<=Od m (a::r)/\Od m (a::r)<=r.length+1:=by
 have d:=S.Ww m (a::r) Y;have f:(S.Ay m (a::r)).length=Od m (a::r):=by
  unfold S.Ay Od;split
  ·rfl
  have:=S.P9 m.Ao (a::r) Y;rw[List.length_map,Ql];omega
 rw[f]at d;exact⟨f,d.1,by simpa using d.2⟩
theorem zlu (d:Nat)(a:List UInt8)(r:List (List UInt8))(f:(S.Ae a).ok=true):S.Ag d (((a::r).take (Od (S.Ae a) (a::r))).map (λh=>h.drop (S.Ae a).Ao))=S.Ag d (S.Ay (S.Ae a) (a::r)):=by
 unfold S.Ay Od;split
 ·rename_i g;rw[Qz,List.take_zero,Qs,List.map_nil];exact S.zej d _ (S.XY a f g.1)
 rfl
theorem zix (a:List UInt8)(r:List (List UInt8))(n:Nat)(l:1<=n)(d:(S.Ae a).ok=true):bytes (((a::r).take n).map (λg=>g.drop (S.Ae a).Ao))<bytes (a::r):=by
 obtain⟨h,j⟩:=S.AZ a d;obtain⟨n,rfl⟩:∃f,n=f+1:=⟨n-1,Z⟩;have k:=S.UY (S.Ae a).Ao r n;rw[Qz,Qs];simp only[bytes,Qs,List.sum_cons,Qf]at *;omega
structure PN (w W0:Sw)(mg:Nat)(ls:List Ln)(z:Int)(k:Nat)(os:List Ln)(a:So)(cp:Nat)(wr:Sw):Prop where
 len:os.length=k
 spec:Ah os=((Ah ls).take k).map (λl=>l.drop mg)
 small:tot (Cu os)<=tot (Cu (ls.take k))
 num:Num z os
 own:wr.ownsRow W0 116 2 (.slice a os.length cp) os.length (Ja os)
 below:Below W0 W0 wr
theorem zl3 (C:List UInt8->List Rn->Prop)(Q:Nat)(cu:Oi C Q)(b k a0:Nat)(p0:Ln)(a:List Ln)(z:Int)(w:Sw)(kk cn:Int)(a6:Fz w b k (p0::a))(ca:Num z (p0::a))(ea:b<w)(f4:a.length+1<=a0)(m:S.Mark)(ax:S.Ae p0.1.data.toList=m)(dg:m.ok=true)(hd:bytes (Ah (p0::a))<=Q):Calls prog 142 #[.slice (some (b k)) (a.length+1) a0,.agg #[.int .u8 kk,cn,m.empty,m.Ao]] w λe g=>∃cl bd,e=.returned (.tuple #[Ob (.nd 7 0 [] [] z bd) cl,((S.Ay m (Ah (p0::a))).length:Nat),.bool (S.Ag Q (S.Ay m (Ah (p0::a)))).2])/\Bv g (λy=>w.heap.size<=y/\y<g) cl bd/\U (Bb C z (S.Ag Q (S.Ay m (Ah (p0::a)))).1 bd)/\Below w w g:=by
 obtain⟨i0,b7,ei,ej,ek⟩:=info_parts Tryz.Zm;obtain⟨ap,a2⟩:=Qzz (w.alloc (.cells #[.int .u8 kk,cn,m.empty,m.Ao] 150));have c3:Below w w ap:=by rw[a2];exact Sr.alloc (Qc _) _
 have ce:ap.heap.size=(w:Nat)+1:=by rw[a2];simp
 have dr:ap.heap[w.heap.size]?=some (.cells #[.int .u8 kk,cn,m.empty,m.Ao] 150 (0,0)):=by rw[a2];exact Ak _ _
 obtain⟨r,cy,b2,fa,ch⟩:=Rq ap;have bu:r.heap[w.heap.size]?=_:=(b2.block w Z).trans dr;have b3:Below w w r:=c3.trans (b2.mono Z);have ep:=a6.len;simp only[Qd]at ep;have e5:=a6.2;have dj:=a6.below b3 ea;have dd:=S.LY p0.1.data.toList;have e3:=a6.size 0 p0 rfl;rw[ax,S.lda]at dd;have es:m.Ao<=1000000:=by simp[tot,Cu]at e5;omega
 obtain⟨N,ar⟩:=Qyy (Od m (Ah (p0::a)));have aw:Ah (p0::a)=p0.1.data.toList::Ah a:=rfl;have d4:U ((S.Ay m (Ah (p0::a))).length=N):=V (by rw[<-ar,aw];exact(Yg m _ _).1);have ct:1<=N:=by rw[<-ar,aw];exact(Yg m _ _).2.1
 have f0:N<=a.length+1:=by rw[<-ar,aw];have:=(Yg m p0.1.data.toList (Ah a)).2.2;rw[F4]at this;exact this
 have d5:U (S.Ag Q (((Ah (p0::a)).take N).map (λbc=>bc.drop m.Ao))=S.Ag Q (S.Ay m (Ah (p0::a)))):=V (by
  rw[<-ar,aw,<-ax];exact zlu Q _ _ (by rw[ax];exact dg))
 have d3:U (bytes (((Ah (p0::a)).take N).map (λbc=>bc.drop m.Ao))<Q):=V (Qh (by
  rw[aw,<-ax];exact zix _ _ N ct (by rw[ax];exact dg)) hd)
 obtain⟨L,T⟩:∃L:Bool,(!m.empty||(decide (0<a.length)&&!((Ah a)[0]?.map S.Ar == some true)))=L:=⟨_,rfl⟩;have bj:U (∀f,f<=a.length->(L=true->(Ah a).takeWhile (Du m.Ao)=(Ah a).take f)->(L=false->f=0)->max 1 (Fu ((Ah (p0::a)).take (f+1)))=N):=V (λf ab t H=>by
  rw[<-ar,aw,Qz];unfold Od;cases bo:L with
  |true=>
   rw[<-t bo,S.zlj,if_neg];rintro⟨ah,c2⟩;rw[List.getElem?_cons_succ]at c2;rw[bo,ah,c2]at T;simp at T
  |false=>
   rw[H bo,List.take_zero];have du:max 1 (Fu [p0.1.data.toList])=1:=by
    rw[U9];simp only[Fu,List.reverse_nil,List.dropWhile_nil,Qi,if_true];split<;>rfl
   rw[du];rw[bo]at T;split
   ·rfl
   rename_i K;cases cf:Ah a with
   |nil=>rfl
   |cons s gc=>
    exfalso
    have ai:0<a.length:=(by have:=congrArg List.length cf;rw[F4]at this;simp at this;omega);rw[Sl ai,cf]at T;rw[cf]at K;simp at T K;exact absurd T.2 (by simpa using K T.1))
 rw[ce]at ch;have al:=V dj;have ew:=V ca;have d6:=V cu;have dq:=V ch;have e9:=V bu;have c4:=V b3;have cz:=V cy;have c0:=V a2;have au:b<r:=Z;have az:w<r.heap.size:=Z;have cg:(w:Nat)+1<r.heap.size:=Z;have f9:=V ce;have b6:=V T;have bg:=X bu 2 _ rfl;have bh:=X bu 3 _ rfl;have cj:p0.2=z:=by have:=ca 0 p0 rfl;simpa using this
 clear a6 ca ax hd cu a2 c3 ce dr cy b2 fa ch bu b3 dj dd ar T;obtain⟨x,l⟩:=p0;dsimp only at cj e3;go_enter func142,ntmps142;go_upto_region 1 with fail
 rw[<-c0.q,<-cz.q];go_upto_region 2 with fail
 go_cut [27] (λfe ae=>fe=.bool L/\r=ae)
 case first=>
  rcases Bool.eq_false_or_eq_true m.empty with aj|aj
  ·have de:=V aj;rw[aj]at bg;clear aj;by_cases ai:0<a.length
   ·obtain⟨p,u⟩:∃p,a[0]?=some p:=⟨a[0],Qg ai⟩;have ak:(((x,l):Ln)::a)[1]?=some p:=(by simpa using u);have K:=(al.q.1 1 p ak).1;have ac:=al.q.size 1 p ak;obtain⟨G,ag⟩:=Qyy (S.Ar p.1.data.toList);have bx:=Lb p.1 r ac;rw[ag]at bx;have cq:U (Calls prog 67 #[.string p.1] r λe g=>e=.returned G/\r=g):=V (bx.mono (λe g ⟨t,H⟩=>⟨t,H.symm⟩));have ah:U (L = !G):=V (by
     rw[<-b6.q,de.q,Jh a 0 p u,Sq,ag,Sl ai];cases G<;>rfl)
    obtain⟨j,s⟩:=p;dsimp only at K ac cq;have f3:r.cell? (b (k+2))=some (.string j):=(by simpa using K);have dx:(1:Int)<(a.length:Int)+1:=Z;clear bx ag ak u K ai;go_wp2_with (fail);apply cq.m;rintro e g⟨rfl,rfl⟩;go_wp2;go_meet;exact⟨by rw[ah.q],rfl⟩
   have ah:U (L=false):=V (by rw[<-b6.q,de.q,Si ai];rfl);have dx:¬(1:Int)<(a.length:Int)+1:=Z;clear ai;go_wp2;go_meet;exact⟨by rw[ah.q],rfl⟩
  have ah:U (L=true):=V (by rw[<-b6.q,aj];rfl);rw[aj]at bg;clear aj;go_wp2;go_meet;exact⟨by rw[ah.q],rfl⟩
 case rest=>
 obtain⟨rfl,rfl⟩:=hcut;go_upto_if 27 with fail
 go_cut [7] (λfg ae=>∃f:Nat,f<=a.length/\fg=.int .i64 ((f:Int)+1)/\U (max 1 (Fu ((Ah (((x,l):Ln)::a)).take (f+1)))=N/\Below r r ae))
 case first=>
  cases L with
  |false=>
   go_wp2;go_meet;exact⟨0,Qt _,rfl,V ⟨bj.q 0 (Qt _) (λh=>by cases h) (λ_=>rfl),Sr⟩⟩
  |true=>
  have ds:=V bh;clear bg bh;go_wp2;go_loopw [7] (λco wr=>∃f:Nat,f<=a.length/\co=.int .i64 ((f:Int)+1)/\U ((∀d y,d<f->(Ah a)[d]?=some y->Du m.Ao y=true)/\Below r r wr)) (λco _=>a.length+1-(intOf co).toNat)
  case atStart=>exact⟨0,Qt _,rfl,V ⟨by intro d y da;omega,Sr⟩⟩
  case round=>
   obtain⟨f,ab,rfl,a5⟩:=hrel;obtain⟨c1,bl⟩:=a5.q;clear a5;have b1:=V c1;have bk:=V bl;haveI f1:Nonempty (Bk wr):=⟨⟨wr,Sr⟩⟩;have b4:b<wr:=Qh au bl.size;have dp:w<wr.heap.size:=Qh az bl.size;have fo:∀kk:Bk wr,kk.w.cell? (w 3)=some (.int .i64 (m.Ao:Nat)):=λkk=>(kk.h.cell (p:=⟨w,3,none⟩) dp).trans ((bk.q.cell (p:=⟨w,3,none⟩) az).trans ds.q);have ay:U (∀kq:Bk wr,Below r r kq.w):=V (λkq=>bk.q.trans (kq.h.mono bk.q.size));clear c1 bl;by_cases dc:f<a.length
   ·obtain⟨p,u⟩:∃p,a[f]?=some p:=⟨a[f],Qg dc⟩;have ak:(((x,l):Ln)::a)[f+1]?=some p:=(by simpa using u);have K:=(al.q.1 (f+1) p ak).1;have ac:=al.q.size (f+1) p ak;have hd:=V (Jh a f p u);obtain⟨j,s⟩:=p;dsimp only at K ac;obtain⟨G,ag⟩:=Qyy (S.Ar j);obtain⟨n,b9⟩:=Qyy (S.Ap j);have fn:∀kk:Bk wr,kk.w.cell? (b (k+(f+1)*2))=some (.string j):=λkk=>(kk.h.cell (p:=⟨b,k+(f+1)*2,none⟩) b4).trans ((bk.q.cell (p:=⟨b,k+(f+1)*2,none⟩) au).trans K);have bw:U (∀kk:Bk wr,Calls prog 67 #[j] kk.w λe g=>e=.returned G/\Below wr wr g):=V (λkk=>by
     have:=Lb j kk.w ac;rw[ag]at this;exact this.mono (λe g ⟨t,H⟩=>⟨t,by rw[H];exact kk.h⟩))
    have bz:U (∀kk:Bk wr,Calls prog 88 #[j] kk.w λe g=>e=.returned n/\Below wr wr g):=V (λkk=>by
     have:=Mw j kk.w ac;rw[b9]at this;exact this.mono (λe g ⟨t,H⟩=>⟨t,by rw[H];exact kk.h⟩))
    have b5:U (Du m.Ao j=(G||decide (m.Ao<=n))):=V (by unfold Du;rw[ag,b9]);have dy:(0:Int)<=(f:Int)+1:=Z;have cr:(f:Int)+1<(a.length:Int)+1:=Z;have e4:((f:Int)+1).toNat=f+1:=Z;have dh:U (Du m.Ao j=true->∀d y,d<f+1->(Ah a)[d]?=some y->Du m.Ao y=true):=V (λh d y da A=>by
     by_cases e:d=f
     ·subst e;rw[hd.q]at A;rw[<-Qy A];exact h
     exact b1.q d y Z A)
    have cc:U (Du m.Ao j=false->max 1 (Fu ((Ah (((x,l):Ln)::a)).take (f+1)))=N):=V (λh=>bj.q f ab (λ_=>BA _ _ f b1.q (by rw[F4];exact ab) (λy A=>by rw[hd.q]at A;rw[<-Qy A];exact h)) (λh=>by cases h));clear u ak K ag b9;cases G
    ·by_cases bq:m.Ao<=n
     ·have eg:(m.Ao:Int)<=(n:Int):=Z;have ci:U (Du m.Ao j=true):=V (by rw[b5.q,Sl bq];rfl);clear bq;go_wp2_with (fail);refine I6 Sk Sk ?_;repeat (go_big_quiet_step ((rename_i kk;first|exact(bw.q kk).mono (λe g h=>⟨h.1,⟨g,h.2⟩,rfl⟩)|exact(bz.q kk).mono (λe g h=>⟨h.1,⟨g,h.2⟩,rfl⟩))))
      refine wpQuiet_nil ?_;intro _ am;obtain⟨kq,an⟩:=am;subst an;go_wp2;go_roundw
      case rel=>exact⟨f+1,Z,by go_num,V ⟨dh.q ci.q,ay.q kq⟩⟩
      case measure=>exact Sj
     have eg:¬(m.Ao:Int)<=(n:Int):=Z;have ev:U (Du m.Ao j=false):=V (by rw[b5.q,Si bq];rfl);clear bq;go_wp2_with (fail);refine I6 Sk Sk ?_;repeat (go_big_quiet_step ((rename_i kk;first|exact(bw.q kk).mono (λe g h=>⟨h.1,⟨g,h.2⟩,rfl⟩)|exact(bz.q kk).mono (λe g h=>⟨h.1,⟨g,h.2⟩,rfl⟩))))
     refine wpQuiet_nil ?_;intro _ am;obtain⟨kq,an⟩:=am;subst an;go_wp2;go_meet;exact⟨f,ab,rfl,V ⟨cc.q ev.q,ay.q kq⟩⟩
    have ci:U (Du m.Ao j=true):=V (by rw[b5.q];rfl);go_wp2_with (fail);refine I6 Sk Sk ?_;repeat (go_big_quiet_step ((rename_i kk;first|exact(bw.q kk).mono (λe g h=>⟨h.1,⟨g,h.2⟩,rfl⟩)|exact(bz.q kk).mono (λe g h=>⟨h.1,⟨g,h.2⟩,rfl⟩))))
    refine wpQuiet_nil ?_;intro _ am;obtain⟨kq,an⟩:=am;subst an;go_wp2;go_roundw
    case rel=>exact⟨f+1,Z,by go_num,V ⟨dh.q ci.q,ay.q kq⟩⟩
    case measure=>exact Sj
   have eo:f=a.length:=Z;subst eo;have cr:¬(a.length:Int)+1<(a.length:Int)+1:=Z;have cc:=V (bj.q a.length ab (λ_=>BA _ _ _ b1.q (by rw[F4];exact ab) (λy A=>by rw[Qr (by rw[F4];exact Qc _)]at A;cases A)) (λh=>by cases h));go_wp2_with (fail);refine I6 Sk Sk ?_;repeat (go_big_quiet_step (fail))
   refine wpQuiet_nil ?_;intro _ am;obtain⟨kq,an⟩:=am;subst an;go_wp2;go_meet;exact⟨a.length,ab,rfl,V ⟨cc.q,ay.q kq⟩⟩
 case rest=>
 obtain⟨f,ab,rfl,bp⟩:=hcut;obtain⟨wc0,e6⟩:=Qzz (wc);subst e6;have bi:=LG b k a0 ((((x,l):Ln)::a).take (f+1)) wc0 ((al.q.below bp.q.2 au).take (f+1));rw[Ql,Qd,SI Z,Zt]at bi;obtain⟨bf,cs⟩:=Qyy (Fu ((Ah (((x,l):Ln)::a)).take (f+1)));have df:=bp.q.1;rw[cs]at bi df;have f6:max (1:Int) (bf:Int)=(N:Int):=Z;have d1:U (Calls prog 131 #[.slice (some (b k)) (f+1) a0] wc0 λe g=>e=.returned bf/\wc0=g):=V (bi.mono (λe g ⟨t,H⟩=>⟨t,H.symm⟩));have aa:=bp.q.2;have av:b<wc0:=Qh au aa.size;have bt:w<wc0.heap.size:=Qh az aa.size;have dm:(w:Nat)+1<wc0.heap.size:=Qh cg aa.size;have a7:=V (al.q.below aa au);have cp:=V ((aa.cell (p:=⟨w,3,none⟩) az).trans bh);have e8:=V ((aa.block ((w:Nat)+1) cg).trans dq.q);have eb:=V (c4.q.trans (aa.mono (Sm az)));have dy:(0:Int)<=(f:Int)+1:=Z;have cr:(f:Int)+1<=(a0:Int):=Z;have e4:((f:Int)+1).toNat=f+1:=Z;clear bp cs df bi aa bg bh al dq e9 c4 cz c0 az cg au bj;go_wp2_with fail
 apply d1.m;rintro e g⟨rfl,rfl⟩;go_wp2;go_loopw [8,9] (λfd ck wr=>∃(d cm:Nat) (af:So) (W:Nat),d<=N/\ck=.int .i64 d/\fd=.slice af cm W/\U (∃q,cm=q.length/\PN w wc0 m.Ao (((x,l):Ln)::a) z d q af W wr)) (λ_ ck _=>N-(intOf ck).toNat)
 case atStart=>exact⟨0,0,none,0,Qt _,rfl,rfl,V ⟨[],rfl,rfl,by simp[Ah,dat,Cu],by simp[tot,Cu],λi p h=>by simp at h,Sqg _ _ _ _,Sr⟩⟩
 case round=>
  obtain⟨d,cm,af,W,da,rfl,rfl,a5⟩:=hrel;obtain⟨q,et,br⟩:=a5.q;subst et;have o:=V br;have a8:wc0<=wr.heap.size:=br.below.size;have f8:q.length<=1000000:=by have:=br.len;omega
  have b4:b<wr:=Qh av a8;have dp:w<wr.heap.size:=Qh bt a8;clear a5 br;by_cases dc:d<N
  ·obtain⟨p,u⟩:∃p,(((x,l):Ln)::a)[d]?=some p:=⟨(((x,l):Ln)::a)[d]'(by simp;omega),Qg (by simp;omega)⟩;have bm:=(a7.q.1 d p u).1;have bn:=(a7.q.1 d p u).2;have ac:=a7.q.size d p u;have cb:=ew.q d p u;have hd:=Jh _ d p u;obtain⟨j,s⟩:=p;dsimp only at bm bn ac cb hd;obtain⟨F,bs⟩:=Qyy (S.B (j.data.toList.drop m.Ao));have ga:F.size<=j.size:=by rw[<-bs,S.Bc,Qf,S.lda];omega
   have dw:U (∀ae,Calls prog 132 #[j,m.Ao] ae λe g=>e=.returned F/\ae=g):=V (λae=>by
    have:=Z8 j m.Ao ae es;rw[bs]at this;exact this.mono (λe g ⟨t,H⟩=>⟨t,H.symm⟩))
   have c7:wr.cell? (b (k+d*2))=some (.string j):=(o.q.below.cell (p:=⟨b,k+d*2,none⟩) av).trans bm;have a4:wr.cell? (b (k+d*2+1))=some (.int .i64 s):=(o.q.below.cell (p:=⟨b,k+d*2+1,none⟩) av).trans bn;have ed:wr.cell? (w 3)=some (.int .i64 (m.Ao:Nat)):=(o.q.below.cell (p:=⟨w,3,none⟩) bt).trans cp.q;have fy:(0:Int)<=(d:Int):=Z;have fz:(d:Int)<(a.length:Int)+1:=Z;have d0:(d:Int)<(N:Int):=Z;have ez:U (∀D,(wr.alloc D).drew.ownsRow wc0 116 2 (.slice af q.length W) q.length (Ja q)):=V (λD=>o.q.own.kept (Below.Ll ((Below.refl wr wr).alloc (Qc _) D).drew) (by
    cases h:(Value.slice af q.length W).ownBlock with
    |none=>exact .inl rfl
    |some R=>exact .inr Y))
   have eu:U (∀i v,([Value.string F,s]:List Value)[i]?=some v->(wr.alloc (.cells #[F,s] 116)).drew.cell? ((wr:Addr).add i)=some v):=V (λi v b7=>World.news_of_block (Ak wr _) i v (by exact b7));have ey:U (∀v∈([Value.string F,s]:List Value),v.oneCell'=true):=V (by
    intro v dl;simp at dl;rcases dl with rfl|rfl<;>rfl)
   have b8:U (∀E,Below wc0 wc0 E->E.cell? (b (k+d*2))=some (.string j)/\E.cell? (b (k+d*2+1))=some (.int .i64 s)/\E.cell? (w 3)=some (.int .i64 (m.Ao:Nat))):=V (λE t=>⟨(t.cell (p:=⟨b,k+d*2,none⟩) av).trans bm,(t.cell (p:=⟨b,k+d*2+1,none⟩) av).trans bn,(t.cell (p:=⟨w,3,none⟩) bt).trans cp.q⟩);have d9:U (Below wc0 wc0 wr.drew):=V o.q.below.drew;have en:=b8.q _ d9.q;have em:U (∀D,(wr.alloc D).drew.cell? (b (k+d*2))=some (.string j)/\(wr.alloc D).drew.cell? (b (k+d*2+1))=some (.int .i64 s)/\(wr.alloc D).drew.cell? (w 3)=some (.int .i64 (m.Ao:Nat))):=V (λD=>b8.q _ (o.q.below.alloc a8 D).drew);have e2:U (∀D R aq E,E.ownsRow wc0 116 2 (.slice (some ⟨R,0,none⟩) (q.length+1) aq) (q.length+1) (Ja q++[.string F,.int .i64 s])->(wr.alloc D).drew.grownBy E (Value.slice af q.length W).ownBlock->PN w wc0 m.Ao (((x,l):Ln)::a) z (d+1) (q++[(F,s)]) (some ⟨R,0,none⟩) aq E):=V (λD R aq E ex eh=>by
    have eq:=o.q.own.lt;refine⟨by rw[Qa,o.q.len];rfl,?_,?_,o.q.num.XC F s (by rw[o.q.len];exact cb),?_,?_⟩
    ·rw[Sv,hd];simp only[Option.toList_some,Qv,Qs,List.map_nil,<-o.q.spec];rw[<-bs];simp[Ah,dat,Cu,S.Bq]
    ·have e:(((x,l):Ln)::a).take (d+1)=(((x,l):Ln)::a).take d++[(j,s)]:=(by rw[Sv,u];rfl);rw[e,Y7,Y7];have:=o.q.small;dsimp only;omega
    ·rw[Qa,Yh];exact ex
    exact Sqi (o.q.below.alloc a8 D).drew eh (by simp;omega) (λfc ay=>(eq fc ay).1))
   have f5:=V c7;clear u hd cb bm bn bs;go_upto_region 10 with fail
   go_region_held3 (λg=>g.cell? (b (k+d*2))=some (.string j)/\g.cell? (b (k+d*2+1))=some (.int .i64 s)/\g.cell? (w 3)=some (.int .i64 (m.Ao:Nat)))
    (with_reducible first|exact⟨c7,a4,ed⟩|exact en|exact em.q _|exact db)
    ((first|(go_at_call 132;refine(dw.q _).mono ?_;rintro e g⟨rfl,rfl⟩)|(refine step_append_lies _ I _ _ 83 I wc0 116 i0 (.agg #[(),O]) 2 24 underlying83 b7 ei ej ek I Z (.slice af q.length W) q.length (Ja q) I (ez.q _) wr 1 1 [.string F,.int .i64 s] I I eu.q ey.q Z (by unfold maxLen;omega) Z (by simp;omega) ((wr:Nat)+1) Y ?_;intro R aq E di c9 d7 er;have cv:=V (e2.q _ R aq E di c9);have db:=b8.q E cv.q.below;clear di c9 d7 er)))
   clear db;go_wp2;go_roundw
   case rel=>exact⟨d+1,q.length+1,some ⟨R,0,none⟩,aq,Z,by go_num,rfl,V ⟨q++[(F,s)],Y,cv.q⟩⟩
   case measure=>exact Sj
  have el:d=N:=Z;subst el;have dk:U (Ah q=((Ah (((x,l):Ln)::a)).take d).map (λbc=>bc.drop m.Ao)):=V o.q.spec;have e0:0<q.length:=by rw[o.q.len];exact ct
  obtain⟨R,rfl,ef,c8,c6,cx⟩:=Z0 o.q.own (by have:=o.q.small;have:=(a7.q.take d).2;omega) e0;have a1:=d6.q R 0 W q z wr c6 c8 cx o.q.num (by rw[dk.q];exact d3.q);rw[dk.q,d5.q]at a1;obtain⟨bv,b0⟩:=Qyy (S.Ag Q (S.Ay m (Ah (((x,l):Ln)::a))));rw[b0]at a1;obtain⟨fp,dt⟩:=bv;dsimp only at a1;have dv:=V a1;have cw:=V b0;have dn:(w:Nat)+1<wr.heap.size:=Qh dm a8;have e7:=V ((o.q.below.block ((w:Nat)+1) dm).trans e8.q);have d8:=V (eb.q.trans (o.q.below.mono (Sm bt)));have a4:wr.cell? (b (k+1))=some (.int .i64 l):=(o.q.below.cell (p:=⟨b,k+1,none⟩) av).trans (by simpa using (a7.q.1 0 (x,l) rfl).2);have ee:=V a4;have d0:¬(d:Int)<(d:Int):=Z;have f7:b≠(w:Nat)+1:=Z;clear cx ef c8 c6 b0 a1 a4;go_wp2_with fail
  apply dv.m;rintro e P⟨cl,bd,rfl,cd,d2,a3⟩;obtain⟨a9,bb,ba,rfl⟩:=cd.form;have M:=(a3.block ((w:Nat)+1) dn).trans e7.q;have gb:(w:Nat)+1<P.heap.size:=Qh dn a3.size;have a4:P.cell? (b (k+1))=some (.int .i64 l):=(a3.cell (p:=⟨b,k+1,none⟩) b4).trans ee.q;have fq:P.cell? (((w:Nat)+1) 0)=some (.int .i64 0):=X M 0 _ rfl;have fr:P.cell? (((w:Nat)+1) 1)=some (.int .i64 0):=X M 1 _ rfl;have fs:P.cell? (((w:Nat)+1) 2)=some (.int .i64 0):=X M 2 _ rfl;have ft:P.cell? (((w:Nat)+1) 3)=some (.string ⟨#[]⟩):=X M 3 _ rfl;have fu:P.cell? (((w:Nat)+1) 4)=some (.string ⟨#[]⟩):=X M 4 _ rfl;have fv:P.cell? (((w:Nat)+1) 5)=some (.int .i64 0):=X M 5 _ rfl;have fw:P.cell? (((w:Nat)+1) 6)=some (.slice none 0 0):=X M 6 _ rfl;have fx:=Av M;have ao:=V (I8 M (.int .i64 0) (.int .i64 7) (.int .i64 0) (.string ⟨#[]⟩) (.string ⟨#[]⟩) (.int .i64 l) (.slice a9 bb ba));have c5:Below w w P:=d8.q.trans (a3.mono Z);have ec:=V (Iq (N:=(w:Nat)+1) c5 (Nat.le_succ _) (.int .i64 0) (.int .i64 7) (.int .i64 0) (.string ⟨#[]⟩) (.string ⟨#[]⟩) (.int .i64 l) (.slice a9 bb ba));have e1:=V (Ke cd (N:=(w:Nat)+1) (λy A e=>by have:=A.1;omega) (.int .i64 0) (.int .i64 7) (.int .i64 0) (.string ⟨#[]⟩) (.string ⟨#[]⟩) (.int .i64 l) (.slice a9 bb ba));have f2:w<=wr.heap.size:=Z;have fb:=V cj;clear M a3 cd c5 cj;go_wp2;refine Sqk (v:=.tuple #[.agg #[O,(7:Int),O,(),(),l,.slice a9 bb ba],.int .i64 (d:Int),dt]) (by have l:=X ao.q 0 _ rfl;have fh:=X ao.q 1 _ rfl;have fi:=X ao.q 2 _ rfl;have fj:=X ao.q 3 _ rfl;have fk:=X ao.q 4 _ rfl;have fl:=X ao.q 5 _ rfl;have fm:=X ao.q 6 _ rfl;simp[results,results142,go_sem,l,fh,fi,fj,fk,fl,fm]) rfl ?_;exact⟨.slice a9 bb ba,bd,by rw[d4.q,cw.q,<-fb.q];rfl,e1.q.move (λy A=>⟨by have:=A.1;omega,by rw[J9];exact A.2⟩) (λ_ _=>rfl),V (by rw[cw.q];exact d2.q),ec.q⟩
