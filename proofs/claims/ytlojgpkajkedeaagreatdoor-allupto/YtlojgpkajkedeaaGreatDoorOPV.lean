import Derived.Test.YtlojgpkajkedeaaGreatDoorOPI
import Derived.Test.YtlojgpkajkedeaaGreatDoorOTQ
import Derived.Test.YtlojgpkajkedeaaGreatDoorOVB
set_option maxHeartbeats 0
set_option maxRecDepth 100000
namespace Go.Proofs.YtlojgpkajkedeaaGreatDoor
open Go.RowKit Go.Proofs.Tryz
mutual
def zo5:Pt->Tr
 |.mk a i f Ab _ _ _=>.mk a 0 (S.B i) (S.B f) (zc6 Ab)
def zc6:List Pt->List Tr
 |[]=>[]
 |p::d=>zo5 p::zc6 d
end
mutual
noncomputable def zo4:S.Ac->Tr
 |.at_ _ a n info text Ai Ab=>.mk a n (S.B info) (textOf a (S.B text) Ai) ((if a=1\/a=2 then zc6 (Ey text)else [])++zo2 Ab)
noncomputable def zo2:List S.Ac->List Tr
 |[]=>[]
 |b::d=>zo4 b::zo2 d
end
mutual
def okB:S.Ac->Prop
 |.at_ _ a n info _ _ Ab=>1<=a/\a<=6/\(a<=4->Ab=[])/\(a=2->0<=n)/\-1<=n/\n<=300000000/\(a=3->info.head?≠some 32)/\(a<=5->Gc Ab)/\(a=6->Mg Ab)
def Gc:List S.Ac->Prop
 |[]=>True
 |b::d=>okB b/\Gc d
def Mg:List S.Ac->Prop
 |[]=>True
 |b::d=>Ou b/\Mg d
def Ou:S.Ac->Prop
 |.at_ _ a n _ _ _ Ab=>a=7/\n=0/\Gc Ab
end
theorem zkq (c:UInt8)(l:List UInt8):S.word (c::l)=if c=32 then []else c::S.word l:=by
 unfold S.word Lib.cut;have h:=Lib.index_ge l [32];by_cases a:c=32
 ·subst a;have e:Lib.index (32::l) [32]=0:=by unfold Lib.index;rw[if_pos Y]
  rw[e,if_pos rfl];simp
 rw[if_neg a];have e:Lib.index (c::l) [32]=if Lib.index l [32] == -1 then -1 else Lib.index l [32]+1:=by
  conv=>lhs;unfold Lib.index
  rw[if_neg (by simp;exact λe=>a e.symm)]
 rw[e];by_cases d:Lib.index l [32] = -1
 ·rw[d];simp
 have f:(Lib.index l [32] == -1)=false:=by rw[Qe];exact d
 rw[f];simp only[Bool.false_eq_true,if_false];rw[if_pos Z,if_pos Z];have g:(Lib.index l [32]+1).toNat=(Lib.index l [32]).toNat+1:=Z;simp only[g,Qz]
theorem zgo (l:List UInt8):S.word l=l.takeWhile (λc=>c != 32):=by
 induction l with
 |nil=>rfl
 |cons c l d=>
  rw[zkq,List.takeWhile_cons,d];by_cases a:c=32
  ·subst a;simp
  rw[if_neg a];simp[a]
theorem LP (n:Int)(a:0<=n):Lib.itoa n=Lib.decDigits n.toNat:=by unfold Lib.itoa;rw[if_neg Z]
theorem zfw (f:List (List UInt8)->List S.Ac×Bool)(d:∀j,Gc (f j).1)(kind:UInt8)(g a:Nat)(m:S.Mark)(row:List (List UInt8)):Mg (S.Bt f kind g a m row).1:=by
 induction a generalizing m row with
 |zero=>simp[S.Bt,Mg]
 |succ a h=>
  rw[S.Kv];split
  ·simp only[Mg,Ou];exact⟨⟨trivial,trivial,d _⟩,h _ _⟩
  simp only[Mg,Ou];exact⟨⟨trivial,trivial,d _⟩,trivial⟩
theorem zfd (l:List UInt8):(l.dropWhile (· == 32)).head?≠some 32:=by
 induction l with
 |nil=>simp
 |cons c l d=>
  rw[List.dropWhile_cons];split
  ·exact d
  rename_i a;simpa using a
theorem zas (l:List UInt8):(S.Bp l).info.head?≠some 32:=by
 unfold S.Bp;split;·simp
 split
 ·exact zfd _
 simp
theorem zi1 (d:List (List UInt8)->List S.Ac×Bool)(g:∀a,Gc (d a).1)(a:List UInt8)(r:List (List UInt8)):okB (S.A8 d (a::r)).1:=by
 have j:okB (S.Cr (a::r)).1:=by
  unfold S.Cr;dsimp only;split
  ·simp[okB,Gc]
  rename_i k _;have:=S.NV k;split
  ·simp[okB,Gc];omega
  simp[okB,Gc]
 unfold S.A8;dsimp only;split
 ·simp[S.Js,okB,Gc]
 split
 ·simp[okB,Gc]
 split
 ·have:=S.XB a;simp[okB,Gc];omega
 split
 ·have:=zas a;simp[S.Km,okB,Gc,this]
 split
 ·have:=g (S.Bn (a::r));simp[okB,this]
 split
 ·have h:=zfw d g (S.Ae a).kind (a::r).length (a::r).length (S.Ae a) (a::r);have f:=S.TB a;rw[S.Lp];simp only[okB];exact⟨J,J,λe=>absurd e J,λe=>absurd e J,f.1,f.2,λe=>absurd e J,λe=>absurd e J,λ_=>h⟩
 exact j
theorem zmw (z:Int)(b:S.Ac):okB (b.put z)↔okB b:=by cases b;simp only[S.Ac.put,okB]
theorem zd3 (d:List (List UInt8)->List S.Ac×Bool)(h:∀f,Gc (d f).1)(g a:Nat)(row:List (List UInt8)):Gc (S.rowFrom d g a row).1:=by
 induction a generalizing row with
 |zero=>simp[S.rowFrom,Gc]
 |succ a j=>
  cases row with
  |nil=>rw[S.K6];simp[Gc]
  |cons f k=>
   rw[S.Mf _ _ _ _ Y];simp only[Gc];exact⟨(zmw _ _).2 (zi1 d h f k),j _⟩
theorem AA (a:Nat)(row:List (List UInt8)):Gc (S.Ag a row).1:=by
 induction a generalizing row with
 |zero=>simp[S.Ag,Gc]
 |succ a d=>
  rw[show S.Ag (a+1) row=S.rowFrom (S.Ag a) row.length row.length (row.drop (S.Az row)) from rfl];exact zd3 (S.Ag a) (λf=>d f) _ _ _
mutual
theorem zmu:∀a:Pt,Pw (Hr a)=K4 a
 |.mk g i h Ab _ _ _=>by
  simp only[Hr,Pw,K4];rw[W9 Ab]
theorem W9:∀d:List Pt,Dm (Dh d)=Dc d
 |[]=>by simp only[Dh,Dm,Dc]
 |a::f=>by
  simp only[Dh,Dm,Dc];rw[zmu a,W9 f]
end
mutual
theorem zaq:∀a:Pt,H7 (Hr a)=Jp a
 |.mk g i h Ab _ _ _=>by
  simp only[Hr,H7];rw[FJ Ab];rfl
theorem FJ:∀d:List Pt,Dp (Dh d)=Ca d
 |[]=>rfl
 |a::f=>by
  simp only[Dh,Dp];rw[zaq a,FJ f,H9]
end
mutual
theorem zax:∀d:Pt,Ig d->Lf (Hr d)
 |.mk h i j Ab _ _ _=>by
  intro a;simp only[Ig]at a;simp only[Hr,Lf];exact⟨Z,Z,λe=>Z,Z,EN Ab a.2.2.2⟩
theorem EN:∀f:List Pt,Dv f->Gy (Dh f)
 |[]=>λ_=>by simp only[Dh,Gy]
 |d::g=>by
  intro a;simp only[Dv]at a;simp only[Dh,Gy];exact⟨zax d a.1,EN g a.2⟩
end
mutual
theorem zgd (d:Bool):∀g:Pt,Ig g->Ky d (Hr g)=Ij g
 |.mk a i q Ab _ _ _=>by
  intro f;simp only[Ig]at f;have l:H6 a q d=false:=by
   have j:¬a=6:=Z;have k:¬a=7:=Z;simp[H6,j,k]
  have o:=EJ false Ab f.2.2.2;simp only[Hr,Ky,Ij];rw[l,o,W9];have m:a=8\/a=9\/a=10\/a=11\/a=12\/a=13\/a=14\/a=15:=Z;rcases m with rfl|rfl|rfl|rfl|rfl|rfl|rfl|rfl<;>simp[Eh]
theorem EJ (d:Bool):∀h:List Pt,Dv h->Em d (Dh h)=Ew h
 |[]=>λ_=>by simp only[Dh,Em,Ew]
 |g::p=>by
  intro f;simp only[Dv]at f;simp only[Dh,Em,Ew];rw[zgd d g f.1,EJ d p f.2]
end
theorem NW (a:Bool)(t:List UInt8):Em a (Dh (Ey t))=Bg t:=EJ a _ (Zg t)
theorem zjj (i:List UInt8)(a:i.head?≠some 32):Im i=[]↔i=[]:=by
 unfold Im;cases i with
 |nil=>simp
 |cons c f=>
  have d:c≠32:=λe=>a (by rw[e];rfl);simp[d]
mutual
theorem zdl:∀(b:S.Ac) (d:Bool) (f:Int) (n:Rn),Fx CT f b n->okB b->Ky d n=Gs Bg d b
 |.at_ M K N i p j t=>by
  intro d f n a g;cases n with
  |nd l m o P L u=>
   simp only[Fx]at a;simp only[okB]at g;obtain⟨rfl,rfl,rfl,rfl,_,a⟩:=a;obtain⟨v,R,z,A,T,W,C,D,E⟩:=g;have F:l=1\/l=2\/l=3\/l=4\/l=5\/l=6:=Z;simp only[Ky,Gs];rcases F with rfl|rfl|rfl|rfl|rfl|rfl
   ·rw[if_pos (.inl rfl)]at a;rw[a,NW];simp[Eh]
   ·rw[if_pos (.inr rfl)]at a;rw[a,NW];simp[Eh,Ni,LP m (A rfl)]
   ·rw[zgo];have e:Ec 3 p j=p:=rfl;rw[e];have G:=zjj o (C rfl);by_cases x:o=[]
    ·subst x;simp[Eh,Im]
    have s:¬Im o=[]:=λQ=>x (G.1 Q);have H:o.takeWhile (λc=>c != 32)=Im o:=rfl;simp only[Eh];rw[if_neg J,if_neg J,if_pos J,if_neg s,if_neg J,if_neg J,if_pos J,if_neg x,H];simp
   ·simp[Eh]
   ·rw[if_neg J]at a;have e:H6 5 (Ec 5 p j) d=false:=(by simp[H6]);rw[e,X8 t false _ u a (D J)];simp[Eh]
   rw[if_neg J]at a;have e:H6 6 (Ec 6 p j) d = !j:=by cases j<;>rfl
   rw[e,KY t (!j) _ u a (E rfl)];by_cases s:m<0
   ·have r:¬0<=m:=Z;simp[Eh,I4,J7,s,r]
   have r:0<=m:=Z;by_cases v:m=1
   ·subst v;simp[Eh,I4,J7]
   simp[Eh,I4,J7,s,r,v,LP m r,Ni]
theorem X8:∀(k:List S.Ac) (d:Bool) (f:Int) (h:List Rn),Bb CT f k h->Gc k->Em d h=Cy Bg d k
 |[]=>by
  intro d f h a _;cases h with
  |nil=>simp only[Em,Cy]
  |cons n q=>simp only[Bb]at a
 |b::y=>by
  intro d f h a g;cases h with
  |nil=>simp only[Bb]at a
  |cons n q=>
   simp only[Bb]at a;simp only[Gc]at g;simp only[Em,Cy];rw[zdl b d f n a.1 g.1,X8 y d f q a.2 g.2]
theorem KY:∀(k:List S.Ac) (d:Bool) (f:Int) (h:List Rn),Bb CT f k h->Mg k->Em d h=Es Bg d k
 |[]=>by
  intro d f h a _;cases h with
  |nil=>simp only[Em,Es]
  |cons n q=>simp only[Bb]at a
 |b::y=>by
  intro d f h a g;cases h with
  |nil=>simp only[Bb]at a
  |cons n q=>
   simp only[Bb]at a;simp only[Mg]at g;simp only[Em,Es];rw[zd5 b d f n a.1 g.1,KY y d f q a.2 g.2]
theorem zd5:∀(b:S.Ac) (d:Bool) (f:Int) (n:Rn),Fx CT f b n->Ou b->Ky d n=Oe Bg d b
 |.at_ M K N i p j t=>by
  intro d f n a g;cases n with
  |nd l m o P L u=>
   simp only[Fx]at a;simp only[Ou]at g;obtain⟨rfl,rfl,rfl,rfl,_,a⟩:=a;obtain⟨rfl,rfl,z⟩:=g;rw[if_neg J]at a;simp only[Ky,Oe];have e:H6 7 (Ec 7 p j) d=d:=by cases d<;>rfl
   rw[e,X8 t d _ u a z];simp[Eh]
end
theorem zec (l:List UInt8)(ns:List Rn)(a:Bb (λd ns=>Dn d [] 0 ns) 0 (S.Ag (l.length+1) (S.Aw l)).1 ns):Em false ns=M8 l:=by
 unfold M8;exact X8 _ false 0 ns (a.mono (λd ns a=>X0 d ns a)) (AA _ _)
mutual
theorem ZY:∀(b:S.Ac) (d:Int) (n:Rn),Fx CT d b n->okB b->Lf n/\6*H7 n<=Eo b
 |.at_ H F K i k t q=>by
  intro d n a g;cases n with
  |nd l L E M G r=>
   simp only[Fx]at a;simp only[okB]at g;obtain⟨rfl,rfl,rfl,rfl,_,a⟩:=a;obtain⟨o,p,v,s,N,P,Q,z,A⟩:=g;have C:(Ec l k t).length<=k.length+5:=by
    unfold Ec;split
    ·omega
    split
    ·split<;>simp
    simp
   simp only[Lf,H7,Eo];by_cases x:l=1\/l=2
   ·rw[if_pos x]at a;have R:=Y1 k;have D:=FJ (Ey k);rw[<-a]at D;exact⟨⟨Z,Z,s,Z,by rw[a];exact EN _ (Zg k)⟩,Z⟩
   rw[if_neg x]at a;by_cases y:l=6
   ·have h:=VO q _ r a (A y);exact⟨⟨Z,Z,s,Z,h.1⟩,by have:=h.2;omega⟩
   have h:=Xb q _ r a (z Z);exact⟨⟨Z,Z,s,Z,h.1⟩,by have:=h.2;omega⟩
theorem Xb:∀(j:List S.Ac) (d:Int) (f:List Rn),Bb CT d j f->Gc j->Gy f/\6*Dp f<=Bo j
 |[]=>by
  intro d f a _;cases f with
  |nil=>simp[Gy,Dp]
  |cons n m=>simp only[Bb]at a
 |b::u=>by
  intro d f a g;cases f with
  |nil=>simp only[Bb]at a
  |cons n m=>
   simp only[Bb]at a;simp only[Gc]at g;have o:=ZY b d n a.1 g.1;have p:=Xb u d m a.2 g.2;simp only[Gy,Dp,Bo];exact⟨⟨o.1,p.1⟩,Z⟩
theorem VO:∀(j:List S.Ac) (d:Int) (f:List Rn),Bb CT d j f->Mg j->Gy f/\6*Dp f<=Bo j
 |[]=>by
  intro d f a _;cases f with
  |nil=>simp[Gy,Dp]
  |cons n m=>simp only[Bb]at a
 |b::u=>by
  intro d f a g;cases f with
  |nil=>simp only[Bb]at a
  |cons n m=>
   simp only[Bb]at a;simp only[Mg]at g;have o:=YP b d n a.1 g.1;have p:=VO u d m a.2 g.2;simp only[Gy,Dp,Bo];exact⟨⟨o.1,p.1⟩,Z⟩
theorem YP:∀(b:S.Ac) (d:Int) (n:Rn),Fx CT d b n->Ou b->Lf n/\6*H7 n<=Eo b
 |.at_ H F K i k t q=>by
  intro d n a g;cases n with
  |nd l L E M G r=>
   simp only[Fx]at a;simp only[Ou]at g;obtain⟨rfl,rfl,rfl,rfl,_,a⟩:=a;obtain⟨rfl,rfl,v⟩:=g;rw[if_neg J]at a;have h:=Xb q _ r a v;have C:(Ec 7 k t).length<=5:=by unfold Ec;simp
   simp only[Lf,H7,Eo];exact⟨⟨Z,Z,λe=>Z,Z,h.1⟩,by have:=h.2;omega⟩
end
theorem XE (l:List UInt8)(j:l.length<=1500)(ns:List Rn)(a:Bb (λd ns=>Dn d [] 0 ns) 0 (S.Ag (l.length+1) (S.Aw l)).1 ns):Gy ns/\Dp ns<=1000000:=by
 have f:=Xb _ 0 ns (a.mono (λd ns a=>X0 d ns a)) (AA _ _);have g:=S.L8 l;have h:=(Td (l.length+1) (S.Aw l) Z).2.1;exact⟨f.1,Z⟩
