import Derived.Test.YtlojgpkajkedeaaGreatDoorOE24
import Derived.Test.YtlojgpkajkedeaaGreatDoorORJ
set_option maxHeartbeats 0
set_option maxRecDepth 100000
namespace Go.Proofs.YtlojgpkajkedeaaGreatDoor
open Go.RowKit Go.Proofs.Tryz
def Yd (C:List UInt8->List Rn->Prop)(g:Nat):Prop:=∀(b m k:Nat) (f:Ln) (d:List Ln) (p:Int) (w:Sw) (a:S.Mark),d.length+1<=k->b<w.heap.size->Fz w b m (f::d)->Num p (f::d)->S.Ae f.1.data.toList=a->a.ok=true->bytes (Ah (f::d))<=g ->
 Calls prog 98 #[.slice (some (b m)) (d.length+1) k,.agg #[.int .u8 (a.kind.toNat:Int),a.Al,a.empty,a.Ao]] w λe j=>∃l h,e=.returned (.tuple #[Ob (.nd 6 a.Al [] (Ec 6 [] (S.G9 (S.Ag g) a (Ah (f::d))).1.Ai) 0 h) l,((S.G9 (S.Ag g) a (Ah (f::d))).2:Nat)])/\Bv j (λo=>w.heap.size<=o/\o<j) l h/\U (Bb C p (S.G9 (S.Ag g) a (Ah (f::d))).1.Ab h)/\Below w w j
def zer (C:List UInt8->List Rn->Prop)(z:Int)(a:S.Ac×Nat)(w:Sw)(e:Ending)(w':Sw):Prop:=∃f d,e=.returned (.tuple #[Ob (.nd a.1.kind a.1.n a.1.info (Ec a.1.kind a.1.text a.1.Ai) 0 d) f,a.2])/\Bv w' (λg=>w.heap.size<=g/\g<w') f d/\U (L9 C z a.1 d)/\Below w w w'
theorem S.XM (l:List UInt8)(a:(S.Bp l).ok=true):1<=(S.Bp l).width/\(S.Bp l).ind=S.Ap l:=by
 cases f:S.Aq l with
 |nil=>rw[S.Zd l f]at a;simp at a
 |cons c g=>
  by_cases d:c=96\/c=126
  ·rw[S.Xh l c g f d];exact⟨by simp only[S.cnt];simp,rfl⟩
  rw[S.FM l c g f (λe=>d (.inl e)) (λe=>d (.inr e))]at a;simp at a
def Tx (C:List UInt8->List Rn->Prop)(z:Int)(B:S.Ac)(a:Sw)(k n:Int)(l o:Sb)(m:Int)(e:Ending)(w2:Sw):Prop:=∃d g f h,e=.returned (.tuple #[.agg #[O,k,n,l,o,O,.slice d g f],m])/\U (Bv w2 (λj=>a.heap.size<=j/\j<w2) (.slice d g f) h/\L9 C z B h/\Below a a w2)
def Rj (a:S.Ac×Nat)(f n:Int)(g k:Sb)(j:Int):Prop:=(∀d h,Ob (.nd a.1.kind a.1.n a.1.info (Ec a.1.kind a.1.text a.1.Ai) 0 h) d=.agg #[O,f,n,g,k,O,d])/\(a.2:Int)=j
theorem zed (C:List UInt8->List Rn->Prop)(al:Nat)(cv:Vg C)(cu:Oi C al)(cr:Yd C al)(b R ag:Nat)(p0:Ln)(s:List Ln)(z:Int)(w:Sw)(c3:s.length+1<=ag)(bw:Fz w b R (p0::s))(c6:Num z (p0::s))(dp:b<w)(ck:S.Ar p0.1.data.toList=false)(hd:bytes (Ah (p0::s))<=al):Calls prog 68 #[.slice (some (b R)) (s.length+1) ag] w (zer C z (S.A8 (S.Ag al) (Ah (p0::s))) w):=by
 obtain⟨E,cw,cc,d2,da⟩:=Rq w;have dw:=bw.len;simp only[Qd]at dw;have cl:=bw.below cc dp;have aq:=bw.size 0 p0 rfl;have bp:Ah (p0::s)=p0.1.data.toList::Ah s:=rfl;obtain⟨a,b9⟩:=Qyy (S.A8 (S.Ag al) (Ah (p0::s)));rw[b9];have c2:E.cell? (b R)=some (.string p0.1):=by simpa using (cl.1 0 p0 rfl).1
 have bf:U (Calls prog 89 #[p0.1] E λe D=>e=.returned (.bool (S.Ea p0.1.data.toList))/\E=D):=V ((Ze p0.1 E aq).mono (λe D ⟨an,ao⟩=>⟨an,ao.symm⟩));have a9:U (Calls prog 90 #[p0.1] E λe D=>∃ap:Sb,e=.returned (.tuple #[(S.En p0.1.data.toList:Nat),ap])/\U (0<S.En p0.1.data.toList->ap=S.B (S.Fp p0.1.data.toList))/\E=D):=V ((LJ p0.1 E aq).mono (λe D ⟨ap,an,ao,b5⟩=>⟨ap,an,ao,b5.symm⟩));have bm:U (Calls prog 91 #[p0.1] E λe D=>∃(b1 b0:Int) (F:Sb),e=.returned (.tuple #[.int .u8 b1,b0,F])/\U (Ns p0.1.data.toList b1 b0 F)/\E=D):=V ((LX p0.1 E aq).mono (λe D ⟨b1,b0,F,an,ao,b5⟩=>⟨b1,b0,F,an,ao,b5.symm⟩));have bd:U (Calls prog 92 #[p0.1] E λe D=>e=.returned (.bool (S.Cz p0.1.data.toList))/\E=D):=V ((Yw p0.1 E aq).mono (λe D ⟨an,ao⟩=>⟨an,ao.symm⟩));have bn:U (Calls prog 93 #[p0.1] E (LW p0.1.data.toList E)):=V (Xj p0.1 E aq);have am:U (∀b4,Calls prog 88 #[p0.1] b4 λe D=>e=.returned (.int .i64 (S.Ap p0.1.data.toList:Nat))/\b4=D):=V (λb4=>(Mw p0.1 b4 aq).mono (λe D ⟨an,ao⟩=>⟨an,ao.symm⟩));obtain⟨q,cm⟩:=Qyy (p0.1.data.toList);rw[cm]at bf a9 bm bd bn am bp ck;obtain⟨b3,bx⟩:=Qyy (S.Ea q);obtain⟨az,bu⟩:=Qyy (S.En q);obtain⟨b2,bv⟩:=Qyy (S.Cz q);obtain⟨ay,br⟩:=Qyy (S.Ap q);rw[bx]at bf;rw[bu]at a9;obtain⟨bl,ci⟩:∃bl:Int,(az:Int)=bl:=⟨_,rfl⟩;rw[ci]at a9;rw[bv]at bd;rw[br]at am;have aw:U (a=if 4<=ay then S.Js (Ah (p0::s))else if b3=true then (.mk 4 0 [] [] false [],1)else if 0<az then (.mk 2 az [] (S.Fp q) false [],1)else if (S.Bp q).ok=true then S.Km (S.Bp q) (Ah (p0::s))else if b2=true then (.mk 5 0 [] [] false (S.Ag al (S.Bn (Ah (p0::s)))).1,(S.Bn (Ah (p0::s))).length)else if (S.Ae q).ok=true then S.G9 (S.Ag al) (S.Ae q) (Ah (p0::s))else S.Cr (Ah (p0::s))):=V (by
  rw[<-b9,<-bx,<-bu,<-bv,<-br,bp];rfl)
 have d7:=V bx;have d6:=V bu;have cj:=V ci;have c8:=V bv;have ds:=V br;have c9:=V cl;have c7:=V c6;have cy:=V cv;have dm:=V cu;have dl:=V cr;have db:=V da;have c0:=V cc;have cx:=V cw;have c4:=V hd;have dx:=V ck;have bq:=V bp;have bb:=V cm;have ce:b<E:=Z;have bz:w<E.heap.size:=Z;obtain⟨T,A⟩:=p0;dsimp only at c2 bf a9 bm bd bn am aq;clear bx bu ci bv br cl bw c6 cv cu cr da cc cw d2 hd ck bp cm b9;go_enter func68,ntmps68;go_upto_region 1 with fail
 rw[<-cx.q];go_wp2_with fail
 apply bf.m;rintro e D⟨rfl,rfl⟩;go_wp2_with fail
 apply a9.m;rintro e D⟨ap,rfl,dn,rfl⟩;go_wp2_with fail
 apply bm.m;rintro e D⟨d3,dh,d4,rfl,b6,rfl⟩;go_wp2_with fail
 apply bd.m;rintro e D⟨rfl,rfl⟩;go_wp2_with fail
 apply bn.m;rintro e dg⟨dd,df,dc,de,rfl,cq,c1⟩;obtain⟨cn,ch⟩:=Qyy ((S.Ae q).ok);rw[ch];have cd:=V c1;have bs:=V ch;clear ch c1;go_upto_region 7 with fail
 obtain⟨r,bo⟩:=Qzz (dg.alloc (.cells #[.int .u8 dd,df,dc,de] 150));rw[<-bo];have ba:Below E E r:=by rw[bo];exact cd.q.alloc cd.q.size _
 have bk:r.heap[dg.heap.size]?=some (.cells #[.int .u8 dd,df,dc,de] 150 (0,0)):=by rw[bo];exact Ak _ _
 have d8:=X bk 0 _ rfl;have d9:=X bk 1 _ rfl;have ea:=X bk 2 _ rfl;have eb:=X bk 3 _ rfl;have ax:=V ((ba.block w bz).trans db.q);have au:=V (c0.q.trans (ba.mono (Sm bz)));have G:w<r.heap.size:=Qh bz ba.size;have bg:b<r:=Qh ce ba.size;have bi:=V (c9.q.below ba ce);clear bo ba bk c9 c0 db cx cd bf a9 bm bd bn c2 bz ce;by_cases bc:4<=ay
 ·have t:a=S.Js (Ah (((T,A):Ln)::s)):=by rw[aw.q,if_pos bc]
  have co:=zlm b R ag (((T,A):Ln)::s) r c3 bi.q bg ⟨_,rfl,by have:=dx.q;rw[<-bb.q]at this;exact this,by rw[show S.Ap ((T,A):Ln).1.data.toList=ay from by rw[bb.q,ds.q]];exact bc⟩;obtain⟨l,n,m,o,y,K,M⟩:∃l n m o y,Rj a l n m o y/\Calls prog 94 #[.slice (some (b R)) (s.length+1) ag] r (Tx C z a.1 r l n m o y):=by
   refine⟨a.1.kind,a.1.n,S.B a.1.info,S.B (Ec a.1.kind a.1.text a.1.Ai),(a.2:Int),⟨λQ x=>rfl,rfl⟩,co.mono ?_⟩;rintro e f⟨rfl,ai⟩;refine⟨none,0,0,[],?_,V ⟨.nil,?_,ai⟩⟩;·rw[t];rfl
   rw[t];simp[L9,S.Js,S.Ac.mk,S.Ac.kind,S.Ac.Ab,Bb]
  have H:=V K;have ah:=V M;have di:(4:Int)<=(ay:Int):=Z;clear K M co t bc;go_wp2_with fail
  refine(am.q _).mono ?_;rintro e D⟨rfl,rfl⟩;go_wp2_with fail
  apply ah.m;rintro e f⟨h,k,j,x,rfl,p⟩;have d:=(p.q.2.2.block w G).trans ax.q;have bj:w<f.heap.size:=Qh G p.q.2.2.size;have a0:f.cell? w=some (.int .i64 0):=X d 0 _ rfl;have a1:f.cell? (w 1)=some (.int .i64 0):=X d 1 _ rfl;have a2:f.cell? (w 2)=some (.int .i64 0):=X d 2 _ rfl;have a3:f.cell? (w 3)=some (.string ⟨#[]⟩):=X d 3 _ rfl;have a4:f.cell? (w 4)=some (.string ⟨#[]⟩):=X d 4 _ rfl;have a5:f.cell? (w 5)=some (.int .i64 0):=X d 5 _ rfl;have a6:f.cell? (w 6)=some (.slice none 0 0):=X d 6 _ rfl;have a7:=Av d;have g:=V (I8 d (.int .i64 0) (.int .i64 l) (.int .i64 n) (.string m) (.string o) (.int .i64 0) (.slice h k j));have L:Below w w f:=au.q.trans (p.q.2.2.mono (Sm G));have P:=V (Iq (N:=w.heap.size) L (Qc _) (.int .i64 0) (.int .i64 l) (.int .i64 n) (.string m) (.string o) (.int .i64 0) (.slice h k j));have ak:=V (Ke p.q.1 (N:=w.heap.size) (λF u e=>by have:=u.1;omega) (.int .i64 0) (.int .i64 l) (.int .i64 n) (.string m) (.string o) (.int .i64 0) (.slice h k j));clear d L;go_wp2;refine Sqk (v:=.tuple #[.agg #[O,.int .i64 l,.int .i64 n,.string m,.string o,O,.slice h k j],.int .i64 y]) (by have A:=X g.q 0 _ rfl;have W:=X g.q 1 _ rfl;have aa:=X g.q 2 _ rfl;have ab:=X g.q 3 _ rfl;have ac:=X g.q 4 _ rfl;have ae:=X g.q 5 _ rfl;have af:=X g.q 6 _ rfl;simp[results,results68,go_sem,A,W,aa,ab,ac,ae,af]) rfl ?_;exact⟨.slice h k j,x,by rw[H.q.1,H.q.2],ak.q.move (λF u=>⟨by have:=u.1;omega,by rw[J9];exact u.2⟩) (λ_ _=>rfl),V p.q.2.1,P.q⟩
 have a8:=V bc;have di:¬(4:Int)<=(ay:Int):=Z;clear bc;cases b3
 case true=>
  have t:a=(.mk 4 0 [] [] false [],1):=by rw[aw.q,if_neg a8.q,if_pos rfl]
  have dv:U (L9 C z a.1 []):=V (by rw[t];unfold L9;rw[if_neg (by show ¬((4:Int)=1\/(4:Int)=2);omega)];exact trivial);have d0:U (∀Q,Ob (.nd a.1.kind a.1.n a.1.info (Ec a.1.kind a.1.text a.1.Ai) 0 []) Q=.agg #[O,(4:Int),O,(),(),O,Q]):=V (λQ=>by rw[t];rfl);have d1:U ((a.2:Int)=1):=V (by rw[t];rfl);clear t;go_wp2_with fail
  refine(am.q _).mono ?_;rintro e D⟨rfl,rfl⟩;go_upto_region 10 with fail
  have d:=ax.q;have a0:r.cell? w=some (.int .i64 0):=X d 0 _ rfl;have a1:r.cell? (w 1)=some (.int .i64 0):=X d 1 _ rfl;have a2:r.cell? (w 2)=some (.int .i64 0):=X d 2 _ rfl;have a3:r.cell? (w 3)=some (.string ⟨#[]⟩):=X d 3 _ rfl;have a4:r.cell? (w 4)=some (.string ⟨#[]⟩):=X d 4 _ rfl;have a5:r.cell? (w 5)=some (.int .i64 0):=X d 5 _ rfl;have a6:r.cell? (w 6)=some (.slice none 0 0):=X d 6 _ rfl;have a7:=Av d;have g:=V (I8 d (.int .i64 0) (.int .i64 4) (.int .i64 0) (.string ⟨#[]⟩) (.string ⟨#[]⟩) (.int .i64 0) (.slice none 0 0));have P:=V (Iq (N:=w.heap.size) au.q (Qc _) (.int .i64 0) (.int .i64 4) (.int .i64 0) (.string ⟨#[]⟩) (.string ⟨#[]⟩) (.int .i64 0) (.slice none 0 0));clear d;go_wp2;refine Sqk (v:=.tuple #[.agg #[O,(4:Int),O,(),(),O,Sx],(1:Int)]) (by have A:=X g.q 0 _ rfl;have W:=X g.q 1 _ rfl;have aa:=X g.q 2 _ rfl;have ab:=X g.q 3 _ rfl;have ac:=X g.q 4 _ rfl;have ae:=X g.q 5 _ rfl;have af:=X g.q 6 _ rfl;simp[results,results68,go_sem,A,W,aa,ab,ac,ae,af]) rfl ?_;exact⟨.slice none 0 0,[],by rw[d0.q,d1.q],.nil,dv,P.q⟩
 by_cases bh:0<az
 ·have t:a=(.mk 2 az [] (S.Fp q) false [],1):=by rw[aw.q,if_neg a8.q,if_neg Y,if_pos bh]
  have cb:=dn.q bh;have c5:(S.Fp q).length<=1000000:=by have:=S.Xc q;rw[<-bb.q,S.lda]at this;rw[<-bb.q];exact Qj this aq
  have ca:=cy.q ap r (by rw[cb,S.Bc];exact c5);have cz:ap.data.toList=S.Fp q:=by rw[cb,S.Bq]
  rw[cz]at ca;obtain⟨l,n,m,o,y,K,dk⟩:∃(l n:Int) (m o:Sb) (y:Int),Rj a l n m o y/\(l=2/\n=bl/\m=⟨#[]⟩/\o=⟨#[]⟩/\y=1):=
   ⟨2,bl,⟨#[]⟩,⟨#[]⟩,1,⟨λQ x=>by rw[t,<-cj.q];rfl,by rw[t];rfl⟩,rfl,rfl,rfl,rfl,rfl⟩
  obtain⟨rfl,rfl,rfl,rfl,rfl⟩:=dk;have H:=V K;have ah:U (Calls prog 95 #[ap] r λe f=>∃h k j x,e=.returned (.slice h k j)/\U (Bv f (λF=>r.heap.size<=F/\F<f) (.slice h k j) x/\L9 C z a.1 x/\Below r r f)):=V (ca.mono (by
   rintro e f⟨Q,x,rfl,aj,ar,ai⟩;obtain⟨h,k,j,rfl⟩:=aj.form;refine⟨h,k,j,x,rfl,V ⟨aj,?_,ai⟩⟩;rw[t];unfold L9;rw[if_pos (by right;rfl)];exact ar.q))
  have dj:(0:Int)<n:=by have:=cj.q;omega
  clear K ca cb cz c5 t bh;go_wp2_with fail
  refine(am.q _).mono ?_;rintro e D⟨rfl,rfl⟩;go_wp2_with fail
  apply ah.m;rintro e f⟨h,k,j,x,rfl,p⟩;have d:=(p.q.2.2.block w G).trans ax.q;have bj:w<f.heap.size:=Qh G p.q.2.2.size;have a0:f.cell? w=some (.int .i64 0):=X d 0 _ rfl;have a1:f.cell? (w 1)=some (.int .i64 0):=X d 1 _ rfl;have a2:f.cell? (w 2)=some (.int .i64 0):=X d 2 _ rfl;have a3:f.cell? (w 3)=some (.string ⟨#[]⟩):=X d 3 _ rfl;have a4:f.cell? (w 4)=some (.string ⟨#[]⟩):=X d 4 _ rfl;have a5:f.cell? (w 5)=some (.int .i64 0):=X d 5 _ rfl;have a6:f.cell? (w 6)=some (.slice none 0 0):=X d 6 _ rfl;have a7:=Av d;have g:=V (I8 d (.int .i64 0) (.int .i64 2) (.int .i64 n) (.string ⟨#[]⟩) (.string ⟨#[]⟩) (.int .i64 0) (.slice h k j));have L:Below w w f:=au.q.trans (p.q.2.2.mono (Sm G));have P:=V (Iq (N:=w.heap.size) L (Qc _) (.int .i64 0) (.int .i64 2) (.int .i64 n) (.string ⟨#[]⟩) (.string ⟨#[]⟩) (.int .i64 0) (.slice h k j));have ak:=V (Ke p.q.1 (N:=w.heap.size) (λF u e=>by have:=u.1;omega) (.int .i64 0) (.int .i64 2) (.int .i64 n) (.string ⟨#[]⟩) (.string ⟨#[]⟩) (.int .i64 0) (.slice h k j));clear d L;go_wp2;refine Sqk (v:=.tuple #[.agg #[O,(2:Int),.int .i64 n,(),(),O,.slice h k j],(1:Int)]) (by have A:=X g.q 0 _ rfl;have W:=X g.q 1 _ rfl;have aa:=X g.q 2 _ rfl;have ab:=X g.q 3 _ rfl;have ac:=X g.q 4 _ rfl;have ae:=X g.q 5 _ rfl;have af:=X g.q 6 _ rfl;simp[results,results68,go_sem,A,W,aa,ab,ac,ae,af]) rfl ?_;exact⟨.slice h k j,x,by rw[H.q.1,H.q.2],ak.q.move (λF u=>⟨by have:=u.1;omega,by rw[J9];exact u.2⟩) (λ_ _=>rfl),V p.q.2.1,P.q⟩
 have bt:=V bh;have dj:¬(0:Int)<bl:=by have:=cj.q;omega
 clear bh;by_cases av:(S.Bp q).ok=true
 ·have t:a=S.Km (S.Bp q) (Ah (((T,A):Ln)::s)):=by rw[aw.q,if_neg a8.q,if_neg Y,if_neg bt.q,if_pos av]
  have b7:=b6.q;unfold Ns at b7;rw[if_pos av]at b7;obtain⟨⟨_,du⟩,rfl,rfl,rfl⟩:=b7;have cg:=S.XM q av;have cp:=zin b R ag ((T,A):Ln) s (S.Bp q).mark (S.Bp q).width (S.B (S.Bp q).info) r bi.q bg cg.1 Z;obtain⟨l,n,m,o,y,K,M⟩:∃l n m o y,Rj a l n m o y/\Calls prog 96 #[.slice (some (b R)) (s.length+1) ag,.int .u8 ((S.Bp q).mark.toNat:Int),((S.Bp q).width:Int),(S.B (S.Bp q).info)] r (Tx C z a.1 r l n m o y):=by
   refine⟨a.1.kind,a.1.n,S.B a.1.info,S.B (Ec a.1.kind a.1.text a.1.Ai),(a.2:Int),⟨λQ x=>rfl,rfl⟩,cp.mono ?_⟩;rintro e f⟨rfl,ai⟩;refine⟨none,0,0,[],?_,V ⟨.nil,?_,ai⟩⟩;·rw[t];unfold S.Km;rw[F4,cg.2,bq.q,List.tail_cons,show S.Ap ((T,A):Ln).1.data.toList=S.Ap q from by rw[bb.q]];rfl
   rw[t];simp[L9,S.Km,S.Ac.mk,S.Ac.kind,S.Ac.Ab,Bb]
  have H:=V K;have ah:=V M;have d5:(0:Int)<((S.Bp q).width:Int):=Z;clear K M cp t av du cg b6;go_wp2_with fail
  refine(am.q _).mono ?_;rintro e D⟨rfl,rfl⟩;go_wp2_with fail
  apply ah.m;rintro e f⟨h,k,j,x,rfl,p⟩;have d:=(p.q.2.2.block w G).trans ax.q;have bj:w<f.heap.size:=Qh G p.q.2.2.size;have a0:f.cell? w=some (.int .i64 0):=X d 0 _ rfl;have a1:f.cell? (w 1)=some (.int .i64 0):=X d 1 _ rfl;have a2:f.cell? (w 2)=some (.int .i64 0):=X d 2 _ rfl;have a3:f.cell? (w 3)=some (.string ⟨#[]⟩):=X d 3 _ rfl;have a4:f.cell? (w 4)=some (.string ⟨#[]⟩):=X d 4 _ rfl;have a5:f.cell? (w 5)=some (.int .i64 0):=X d 5 _ rfl;have a6:f.cell? (w 6)=some (.slice none 0 0):=X d 6 _ rfl;have a7:=Av d;have g:=V (I8 d (.int .i64 0) (.int .i64 l) (.int .i64 n) (.string m) (.string o) (.int .i64 0) (.slice h k j));have L:Below w w f:=au.q.trans (p.q.2.2.mono (Sm G));have P:=V (Iq (N:=w.heap.size) L (Qc _) (.int .i64 0) (.int .i64 l) (.int .i64 n) (.string m) (.string o) (.int .i64 0) (.slice h k j));have ak:=V (Ke p.q.1 (N:=w.heap.size) (λF u e=>by have:=u.1;omega) (.int .i64 0) (.int .i64 l) (.int .i64 n) (.string m) (.string o) (.int .i64 0) (.slice h k j));clear d L;go_wp2;refine Sqk (v:=.tuple #[.agg #[O,.int .i64 l,.int .i64 n,.string m,.string o,O,.slice h k j],.int .i64 y]) (by have A:=X g.q 0 _ rfl;have W:=X g.q 1 _ rfl;have aa:=X g.q 2 _ rfl;have ab:=X g.q 3 _ rfl;have ac:=X g.q 4 _ rfl;have ae:=X g.q 5 _ rfl;have af:=X g.q 6 _ rfl;simp[results,results68,go_sem,A,W,aa,ab,ac,ae,af]) rfl ?_;exact⟨.slice h k j,x,by rw[H.q.1,H.q.2],ak.q.move (λF u=>⟨by have:=u.1;omega,by rw[J9];exact u.2⟩) (λ_ _=>rfl),V p.q.2.1,P.q⟩
 have cf:=V av;have dq:dh=0:=by have:=b6.q.2;rw[if_neg av]at this;exact this
 subst dq;clear av;cases b2
 case true=>
  have t:a=(.mk 5 0 [] [] false (S.Ag al (S.Bn (Ah (((T,A):Ln)::s)))).1,(S.Bn (Ah (((T,A):Ln)::s))).length):=by rw[aw.q,if_neg a8.q,if_neg Y,if_neg bt.q,if_neg cf.q,if_pos rfl]
  have ct:=zdk C al dm.q b R ag (((T,A):Ln)::s) z r bi.q c7.q bg (by rw[bq.q];simp[c8.q]) (by
   rw[bq.q];refine Qh (FB q (Ah s) c8.q) ?_;rw[<-bq.q];exact c4.q)
  obtain⟨l,n,m,o,y,K,M⟩:∃l n m o y,Rj a l n m o y/\Calls prog 97 #[.slice (some (b R)) (s.length+1) ag] r (Tx C z a.1 r l n m o y):=by
   refine⟨a.1.kind,a.1.n,S.B a.1.info,S.B (Ec a.1.kind a.1.text a.1.Ai),(a.2:Int),⟨λQ x=>rfl,rfl⟩,ct.mono ?_⟩;rintro e f⟨Q,x,rfl,aj,ar,ai⟩;obtain⟨h,k,j,rfl⟩:=aj.form;refine⟨h,k,j,x,?_,V ⟨aj,?_,ai⟩⟩;·rw[t];rfl
   rw[t];unfold L9;rw[if_neg (by show ¬((5:Int)=1\/(5:Int)=2);omega)];exact ar.q
  have H:=V K;have ah:=V M;clear K M ct t;go_wp2_with fail
  refine(am.q _).mono ?_;rintro e D⟨rfl,rfl⟩;go_wp2_with fail
  apply ah.m;rintro e f⟨h,k,j,x,rfl,p⟩;have d:=(p.q.2.2.block w G).trans ax.q;have bj:w<f.heap.size:=Qh G p.q.2.2.size;have a0:f.cell? w=some (.int .i64 0):=X d 0 _ rfl;have a1:f.cell? (w 1)=some (.int .i64 0):=X d 1 _ rfl;have a2:f.cell? (w 2)=some (.int .i64 0):=X d 2 _ rfl;have a3:f.cell? (w 3)=some (.string ⟨#[]⟩):=X d 3 _ rfl;have a4:f.cell? (w 4)=some (.string ⟨#[]⟩):=X d 4 _ rfl;have a5:f.cell? (w 5)=some (.int .i64 0):=X d 5 _ rfl;have a6:f.cell? (w 6)=some (.slice none 0 0):=X d 6 _ rfl;have a7:=Av d;have g:=V (I8 d (.int .i64 0) (.int .i64 l) (.int .i64 n) (.string m) (.string o) (.int .i64 0) (.slice h k j));have L:Below w w f:=au.q.trans (p.q.2.2.mono (Sm G));have P:=V (Iq (N:=w.heap.size) L (Qc _) (.int .i64 0) (.int .i64 l) (.int .i64 n) (.string m) (.string o) (.int .i64 0) (.slice h k j));have ak:=V (Ke p.q.1 (N:=w.heap.size) (λF u e=>by have:=u.1;omega) (.int .i64 0) (.int .i64 l) (.int .i64 n) (.string m) (.string o) (.int .i64 0) (.slice h k j));clear d L;go_wp2;refine Sqk (v:=.tuple #[.agg #[O,.int .i64 l,.int .i64 n,.string m,.string o,O,.slice h k j],.int .i64 y]) (by have A:=X g.q 0 _ rfl;have W:=X g.q 1 _ rfl;have aa:=X g.q 2 _ rfl;have ab:=X g.q 3 _ rfl;have ac:=X g.q 4 _ rfl;have ae:=X g.q 5 _ rfl;have af:=X g.q 6 _ rfl;simp[results,results68,go_sem,A,W,aa,ab,ac,ae,af]) rfl ?_;exact⟨.slice h k j,x,by rw[H.q.1,H.q.2],ak.q.move (λF u=>⟨by have:=u.1;omega,by rw[J9];exact u.2⟩) (λ_ _=>rfl),V p.q.2.1,P.q⟩
 cases cn
 case true=>
  have t:a=S.G9 (S.Ag al) (S.Ae q) (Ah (((T,A):Ln)::s)):=by rw[aw.q,if_neg a8.q,if_neg Y,if_neg bt.q,if_neg cf.q,if_neg Y,if_pos bs.q]
  obtain⟨rfl,rfl,rfl,rfl⟩:=cq.q bs.q;have cs:=dl.q b R ag ((T,A):Ln) s z r (S.Ae q) c3 bg bi.q c7.q (by rw[bb.q]) bs.q c4.q;obtain⟨l,n,m,o,y,K,M⟩:∃l n m o y,Rj a l n m o y/\Calls prog 98 #[.slice (some (b R)) (s.length+1) ag,.agg #[.int .u8 ((S.Ae q).kind.toNat:Int),.int .i64 (S.Ae q).Al,.bool (S.Ae q).empty,((S.Ae q).Ao:Int)]] r (Tx C z a.1 r l n m o y):=by
   refine⟨a.1.kind,a.1.n,S.B a.1.info,S.B (Ec a.1.kind a.1.text a.1.Ai),(a.2:Int),⟨λQ x=>rfl,rfl⟩,cs.mono ?_⟩;rintro e f⟨Q,x,rfl,aj,ar,ai⟩;obtain⟨h,k,j,rfl⟩:=aj.form;refine⟨h,k,j,x,?_,V ⟨aj,?_,ai⟩⟩;·rw[t];rfl
   rw[t];unfold L9;rw[if_neg (by show ¬((6:Int)=1\/(6:Int)=2);omega)];exact ar.q
  have H:=V K;have ah:=V M;clear K M cs t cq;go_wp2_with fail
  refine(am.q _).mono ?_;rintro e D⟨rfl,rfl⟩;go_wp2_with fail
  apply ah.m;rintro e f⟨h,k,j,x,rfl,p⟩;have d:=(p.q.2.2.block w G).trans ax.q;have bj:w<f.heap.size:=Qh G p.q.2.2.size;have a0:f.cell? w=some (.int .i64 0):=X d 0 _ rfl;have a1:f.cell? (w 1)=some (.int .i64 0):=X d 1 _ rfl;have a2:f.cell? (w 2)=some (.int .i64 0):=X d 2 _ rfl;have a3:f.cell? (w 3)=some (.string ⟨#[]⟩):=X d 3 _ rfl;have a4:f.cell? (w 4)=some (.string ⟨#[]⟩):=X d 4 _ rfl;have a5:f.cell? (w 5)=some (.int .i64 0):=X d 5 _ rfl;have a6:f.cell? (w 6)=some (.slice none 0 0):=X d 6 _ rfl;have a7:=Av d;have g:=V (I8 d (.int .i64 0) (.int .i64 l) (.int .i64 n) (.string m) (.string o) (.int .i64 0) (.slice h k j));have L:Below w w f:=au.q.trans (p.q.2.2.mono (Sm G));have P:=V (Iq (N:=w.heap.size) L (Qc _) (.int .i64 0) (.int .i64 l) (.int .i64 n) (.string m) (.string o) (.int .i64 0) (.slice h k j));have ak:=V (Ke p.q.1 (N:=w.heap.size) (λF u e=>by have:=u.1;omega) (.int .i64 0) (.int .i64 l) (.int .i64 n) (.string m) (.string o) (.int .i64 0) (.slice h k j));clear d L;go_wp2;refine Sqk (v:=.tuple #[.agg #[O,.int .i64 l,.int .i64 n,.string m,.string o,O,.slice h k j],.int .i64 y]) (by have A:=X g.q 0 _ rfl;have W:=X g.q 1 _ rfl;have aa:=X g.q 2 _ rfl;have ab:=X g.q 3 _ rfl;have ac:=X g.q 4 _ rfl;have ae:=X g.q 5 _ rfl;have af:=X g.q 6 _ rfl;simp[results,results68,go_sem,A,W,aa,ab,ac,ae,af]) rfl ?_;exact⟨.slice h k j,x,by rw[H.q.1,H.q.2],ak.q.move (λF u=>⟨by have:=u.1;omega,by rw[J9];exact u.2⟩) (λ_ _=>rfl),V p.q.2.1,P.q⟩
 have t:a=S.Cr (Ah (((T,A):Ln)::s)):=by rw[aw.q,if_neg a8.q,if_neg Y,if_neg bt.q,if_neg cf.q,if_neg Y,if_neg (by rw[bs.q];simp)]
 have b8:=za7 C cy.q b R ag ((T,A):Ln) s r bi.q bg;obtain⟨l,n,m,o,y,K,M⟩:∃l n m o y,Rj a l n m o y/\Calls prog 99 #[.slice (some (b R)) (s.length+1) ag] r (Tx C z a.1 r l n m o y):=by
  rw[<-t]at b8;have dt:a.1.kind=1\/a.1.kind=2:=by rw[t];unfold S.Cr;dsimp only;split<;>(try split)<;>simp[S.Ac.kind]
  have dr:a.1.info=[]:=by rw[t];unfold S.Cr;dsimp only;split<;>(try split)<;>simp[S.Ac.info]
  refine⟨a.1.kind,a.1.n,S.B a.1.info,S.B (Ec a.1.kind a.1.text a.1.Ai),(a.2:Int),⟨λQ x=>rfl,rfl⟩,b8.mono ?_⟩;rintro e f⟨Q,x,rfl,aj,ar,ai⟩;obtain⟨h,k,j,rfl⟩:=aj.form;refine⟨h,k,j,x,?_,V ⟨aj,?_,ai⟩⟩
  ·have dy:Ec a.1.kind a.1.text a.1.Ai=[]:=by unfold Ec;rw[if_neg Z,if_neg Z]
   show _=Ending.returned (.tuple #[.agg #[O,a.1.kind,a.1.n,(S.B a.1.info),(S.B (Ec a.1.kind a.1.text a.1.Ai)),O,.slice h k j],a.2]);rw[dy,dr];rfl
  unfold L9;rw[if_pos dt];exact ar.q
 have H:=V K;have ah:=V M;clear K M b8 t;go_wp2_with fail
 refine(am.q _).mono ?_;rintro e D⟨rfl,rfl⟩;go_wp2_with fail
 apply ah.m;rintro e f⟨h,k,j,x,rfl,p⟩;have d:=(p.q.2.2.block w G).trans ax.q;have bj:w<f.heap.size:=Qh G p.q.2.2.size;have a0:f.cell? w=some (.int .i64 0):=X d 0 _ rfl;have a1:f.cell? (w 1)=some (.int .i64 0):=X d 1 _ rfl;have a2:f.cell? (w 2)=some (.int .i64 0):=X d 2 _ rfl;have a3:f.cell? (w 3)=some (.string ⟨#[]⟩):=X d 3 _ rfl;have a4:f.cell? (w 4)=some (.string ⟨#[]⟩):=X d 4 _ rfl;have a5:f.cell? (w 5)=some (.int .i64 0):=X d 5 _ rfl;have a6:f.cell? (w 6)=some (.slice none 0 0):=X d 6 _ rfl;have a7:=Av d;have g:=V (I8 d (.int .i64 0) (.int .i64 l) (.int .i64 n) (.string m) (.string o) (.int .i64 0) (.slice h k j));have L:Below w w f:=au.q.trans (p.q.2.2.mono (Sm G));have P:=V (Iq (N:=w.heap.size) L (Qc _) (.int .i64 0) (.int .i64 l) (.int .i64 n) (.string m) (.string o) (.int .i64 0) (.slice h k j));have ak:=V (Ke p.q.1 (N:=w.heap.size) (λF u e=>by have:=u.1;omega) (.int .i64 0) (.int .i64 l) (.int .i64 n) (.string m) (.string o) (.int .i64 0) (.slice h k j));clear d L;go_wp2;refine Sqk (v:=.tuple #[.agg #[O,.int .i64 l,.int .i64 n,.string m,.string o,O,.slice h k j],.int .i64 y]) (by have A:=X g.q 0 _ rfl;have W:=X g.q 1 _ rfl;have aa:=X g.q 2 _ rfl;have ab:=X g.q 3 _ rfl;have ac:=X g.q 4 _ rfl;have ae:=X g.q 5 _ rfl;have af:=X g.q 6 _ rfl;simp[results,results68,go_sem,A,W,aa,ab,ac,ae,af]) rfl ?_;exact⟨.slice h k j,x,by rw[H.q.1,H.q.2],ak.q.move (λF u=>⟨by have:=u.1;omega,by rw[J9];exact u.2⟩) (λ_ _=>rfl),V p.q.2.1,P.q⟩
def O4 (a:Nat)(row:List (List UInt8))(k:Nat)(f:List S.Ac)(g:Bool):Prop:=k<=row.length/\∃d,row.length-k<=d /\
 S.Ag (a+1) row=(f++(S.rowFrom (S.Ag a) row.length d (row.drop (k+S.Az (row.drop k)))).1,(g||(decide (0<S.Az (row.drop k))&&!f.isEmpty&&!(row.drop (k+S.Az (row.drop k))).isEmpty))||(S.rowFrom (S.Ag a) row.length d (row.drop (k+S.Az (row.drop k)))).2)
theorem O4.start (a:Nat)(row:List (List UInt8)):O4 a row 0 [] false:=by
 refine⟨Qt _,row.length,Z,?_⟩;rw[List.drop_zero,Nat.zero_add];simp only[S.Ag,List.nil_append,List.isEmpty_nil,Bool.not_true,Bool.and_false,Bool.false_and,Bool.or_false,Bool.false_or]
theorem K6 (f:List (List UInt8)->List S.Ac×Bool)(d a:Nat):S.rowFrom f d a []=([],false):=by
 cases a<;>simp[S.rowFrom]
theorem O4.last {f:Nat}{row:List (List UInt8)}{k:Nat}{d:List S.Ac}{g:Bool}(a:O4 f row k d g)(h:row.length<=k+S.Az (row.drop k)):S.Ag (f+1) row=(d,g):=by
 obtain⟨_,j,_,a⟩:=a;rw[Qw h,K6]at a;simpa using a
theorem O4.step {h:Nat}{row:List (List UInt8)}{k:Nat}{a:List S.Ac}{g:Bool}(f:O4 h row k a g){c:Nat}(r:S.Az (row.drop k)=c)(x:k+c<row.length){b:S.Ac}{z:Nat}(p:S.A8 (S.Ag h) (row.drop (k+c))=(b,z))(y:1<=z)(u:k+c+z<=row.length):O4 h row (k+c+z) (a++[b.put ((k+c:Nat):Int)]) (g||(decide (0<c)&&!a.isEmpty)):=by
 obtain⟨_,d,v,f⟩:=f;rw[r]at f;obtain⟨d,rfl⟩:∃o,d=o+1:=⟨d-1,Z⟩;refine⟨u,d,Z,?_⟩;have j:¬row.drop (k+c)=[]:=by
  intro e;have:=congrArg List.length e;rw[Qf,Qi]at this;omega
 have s:(row.drop (k+c)).isEmpty=false:=by
  cases t:row.drop (k+c) with
  |nil=>exact absurd t j
  |cons _ _=>rfl
 rw[f,s];simp only[S.rowFrom];rw[if_neg j,p];dsimp only;rw[Qbb,Qbb,Qf];have l:row.length-(row.length-(k+c))=k+c:=Z;have m:k+c+(z+S.Az (row.drop (k+c+z)))=k+c+z+S.Az (row.drop (k+c+z)):=Z;have q:(a++[b.put ((k+c:Nat):Int)]).isEmpty=false:=by cases a<;>rfl
 rw[l,m,q];refine Prod.ext ?_ ?_;·simp
 simp only[Bool.not_false,Bool.and_true,Bool.or_assoc]
theorem Tryz.EW:(prog.info? 118).map (λi=>(i.zero,i.size,i.bytes))=some (some (.agg #[O,O,O,(),(),O,Sx]),7,88):=Sk
def Gm (ps:List (Rn×Value)):List Value:=(ps.map (λa=>Ko a.1 a.2)).flatten
theorem VN (ps:List (Rn×Value))(p:Rn×Value):Gm (ps++[p])=Gm ps++Ko p.1 p.2:=by simp[Gm]
theorem ziu (ps:List (Rn×Value))(i d:Nat)(p:Rn×Value)(f:ps[i]?=some p)(k:d<7):(Gm ps)[7*i+d]?=(Ko p.1 p.2)[d]?:=by
 induction ps generalizing i with
 |nil=>simp at f
 |cons a h j=>
  have g:(Ko a.1 a.2).length=7:=rfl;cases i with
  |zero=>
   simp at f;subst f;show (Ko a.1 a.2++Gm h)[7*0+d]?=_;rw[Qbd (by rw[g];omega)];simp
  |succ i=>
   have:=j i (by simpa using f);show (Ko a.1 a.2++Gm h)[7*(i+1)+d]?=_;rw[Qu (by rw[g];omega),g,<-this];congr 1;omega
theorem EG {w:Sw}{B:Nat}{v:Value}{ps:List (Rn×Value)}{A:Nat->Prop}(l:w.ownsRow B 118 7 v ps.length (Gm ps))(u:∀g,v.ownBlock=some g->A g)
  (z:∀(i:Nat) (d:Rn×Value),ps[i]?=some d->Bv w A d.2 d.1.Ab):Bv w A v (ps.map Prod.fst):=by
 rcases l.2 with ⟨m,p⟩|⟨g,s,D,m,p,E,t,F,G,H⟩
 ·have:ps=[]:=List.eq_nil_of_length_eq_zero p;subst this;rw[m];exact .nil
 subst m;have y:∀i f d j,ps[i]?=some d->f<7->(Ko d.1 d.2)[f]?=some j->w.cell? ⟨g,0+i*7+f,none⟩=some j:=by
  intro i f d j a o k;have r:=ziu ps i f d a o;rw[k]at r;have:=l.cells (g:=g) rfl (7*i+f) j r;have x:(⟨g,0,none⟩:Addr).add (7*i+f)=⟨g,0+i*7+f,none⟩:=by
   simp only[Addr.add];split;·rename_i l;simp<;>omega
   simp<;>omega
  rw[<-x];exact this
 have q:(ps.map Prod.fst).length=ps.length:=Y;rw[<-q];refine .some g 0 s (ps.map Prod.fst) (λi=>(ps[i]?.map (λd=>d.2)).getD .nilIface) (u g rfl) (by rw[q];exact t) ?_ ?_
 ·intro i C a f j k;rw[SA]at a;cases h:ps[i]? with
  |none=>rw[h]at a;simp at a
  |some d=>
   rw[h]at a;simp at a;subst a;have o:=(Qb.1 k).1;exact y i f d j h o (by rw[h]at k;simpa using k)
 intro i C a;rw[SA]at a;cases h:ps[i]? with
 |none=>rw[h]at a;simp at a
 |some d=>
  rw[h]at a;simp at a;subst a;have:=z i d h;simpa [h]using this
structure Jv (B:Nat)(w:Sw)(ps:List (Rn×Value))(v:Value)(wr:Sw):Prop where
 own:wr.ownsRow B 118 7 v ps.length (Gm ps)
 Ab:∀(i:Nat) (p:Rn×Value),ps[i]?=some p->Bv wr (λx=>B<=x/\x<wr.heap.size/\some x≠v.ownBlock) p.2 p.1.Ab
 below:Below B w wr
theorem Jv.start (B:Nat)(w:Sw):Jv B w [] (.slice none 0 0) w:=⟨Sqg _ _ _ _,λi d a=>by simp at a,Sr⟩
theorem Jv.step {B:Nat}{w wr h w2 s:Sw}{g cap1:Nat}{ps:List (Rn×Value)}{v kv:Value}{t:Rn}
  (k:Jv B w ps v wr) (u:B<=wr) (l:Below wr wr h) (D:Bv h (λa=>wr.heap.size<=a/\a<h) kv t.Ab)
  (A:w2.ownsRow B 118 7 (.slice (some g) (ps.length+1) cap1) (ps.length+1) (Gm ps++Ko t kv)) (m:Below h h s) (o:s.grownBy w2 v.ownBlock)
  (f:v.ownBlock=some g\/h.heap.size<=g):Jv B w (ps++[(t,kv)]) (.slice (some g) (ps++[(t,kv)]).length cap1) w2:=by
 have p:=k.own.lt;have F:=l.size;have H:=m.size;have G:=o.size;have r:∀a,a<h.heap.size->some a≠v.ownBlock->w2.heap[a]?=h.heap[a]?:=by
  intro a d z;rw[o.block a Z z,m.block a d]
 refine⟨by rw[VN,Qa];exact A,?_,?_⟩
 ·intro i q j;show Bv w2 (λa=>B<=a/\a<w2.heap.size/\some a≠some g) q.2 q.1.Ab;by_cases y:i<ps.length
  ·rw[Qbd y]at j;refine(k.Ab i q j).move ?_ ?_
   ·intro a d;refine⟨d.1,Z,?_⟩;rcases f with f|f
    ·rw[<-f];exact d.2.2
    intro e;cases e;omega
   intro a d;rw[r a Z d.2.2,l.block a d.2.1]
  rw[Qu Z]at j;have x:i-ps.length=0:=by have:=(Qb.1 j).1;simp at this;omega
  rw[x]at j;simp at j;subst j;refine D.move ?_ ?_
  ·intro a d;refine⟨Z,Z,?_⟩;intro e;rcases f with f|f
   ·have:=p g f;cases e;omega
   cases e;omega
  intro a d;refine r a d.2 (λe=>?_);have:=p a e.symm;omega
 refine Sqi ((k.below.trans (l.mono u)).trans (m.mono Z)) o Z (λE C=>(p E C).1)
