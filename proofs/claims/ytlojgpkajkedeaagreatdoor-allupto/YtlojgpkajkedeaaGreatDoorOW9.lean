import Derived.Test.YtlojgpkajkedeaaGreatDoorOW7
import Derived.Deep.RegionHeld3
import Derived.Deep.DeepCutAuto
import Derived.Deep.QuietTactic
import Derived.BigQuiet
set_option maxHeartbeats 0
set_option maxRecDepth 100000
namespace Go.Proofs.YtlojgpkajkedeaaGreatDoor
open Go.RowKit Go.Proofs.Tryz
def tot (d:List ByteArray):Nat:=(d.map (λa=>a.size+1)).sum
theorem OX (a:List ByteArray):a.length<=tot a:=by
 induction a with
 |nil=>simp[tot]
 |cons g f d=>simp only[tot,Qs,List.sum_cons,Qd]at *;omega
theorem J6 (d:List ByteArray)(k:Nat)(s:Sb)(a:d[k]?=some s):s.size<tot d:=by
 induction d generalizing k with
 |nil=>simp at a
 |cons h g f=>
  simp only[tot,Qs,List.sum_cons]at *;cases k with
  |zero=>simp at a;subst a;omega
  |succ k=>have:=f k (by simpa using a);omega
def Cx (w:Sw)(b f:Nat)(d:List ByteArray):Prop:=(∀i a,d[i]?=some a->w.cell? (b (f+i))=some (.string a))/\tot d<=1000000
theorem Cx.row {w:Sw}{b g:Nat}{a:List ByteArray}(d:Cx w b g a):Row w b g a:=by
 intro i h f;exact⟨d.1 i h f,by have:=J6 a i h f;have:=d.2;omega⟩
theorem Cx.len {w:Sw}{b f:Nat}{a:List ByteArray}(d:Cx w b f a):a.length<=1000000:=Qj (OX a) d.2
theorem Cx.below {w w':Sw}{n b a:Nat}{f:List ByteArray}(d:Cx w b a f)(g:Below n w w')(j:b<n):Cx w' b a f:=
 ⟨λi k h=>(g.cell (p:=⟨b,a+i,none⟩) j).trans (d.1 i k h),d.2⟩
theorem NJ (a:List ByteArray)(k:Nat):tot (a.drop k)<=tot a:=by
 induction a generalizing k with
 |nil=>simp[tot]
 |cons g f d=>cases k with
  |zero=>simp
  |succ k=>have:=d k;simp only[List.drop_succ_cons];simp only[tot,Qs,List.sum_cons]at *;omega
theorem Cx.drop {w:Sw}{b g:Nat}{a:List ByteArray}(d:Cx w b g a)(k:Nat):Cx w b (g+k) (a.drop k):=by
 refine⟨λi h f=>?_,Qj (NJ a k) d.2⟩;rw[Qn]at f;have:=d.1 (k+i) h f;rw[Nat.add_assoc];exact this
def Gz (b:S.Ac)(kv:Value):Value:=.agg #[b.kind,b.line,Sx,b.n,(S.B b.info),(S.B b.text),b.Ai,kv]
theorem UE (a:List ByteArray)(k:Nat):(S.Hy ((dat a).take k)).length<=tot a:=by
 induction a generalizing k with
 |nil=>simp[S.Hy,dat,tot]
 |cons g f d=>cases k with
  |zero=>simp[S.Hy]
  |succ k=>
   have:=d k;simp only[S.Hy,dat,tot,Qs,Qz,List.flatten_cons,Qa,Qf,List.sum_cons,List.length_singleton]at *;rw[S.lda];omega
theorem TG (a:List ByteArray)(k:Nat)(s:Sb)(d:a[k]?=some s):S.Hy ((dat a).take (k+1))=S.Hy ((dat a).take k)++(s.data.toList.drop 4++[10]):=by
 have f:(dat a)[k]?=some s.data.toList:=by rw[Iy,d];rfl
 rw[Sv,f];simp[S.Hy]
theorem Vm (w:Sw):Lib.IsBuilderF 104 5 w.heap.size w (Lib.byteCells []) (w.alloc (.cells #[.pointer none,Sx] 104)):=by
 refine Lib.IsBuilderF.of (.inl ⟨Qc _,.slice none 0 0,Ak _ _,Sqg _ _ _ _,?_⟩);simp[Value.ownBlock]
theorem AV (l:List UInt8)(r:Sb)(a:List UInt8)(d:r.data.toList=a):(Lib.byteCells l++Lib.strCells r)++[.int .u8 10]=Lib.byteCells (l++(a++[10])):=by
 rw[Lib.strCells_eq,d,Lib.byteCells_append,Lib.byteCells_append,Qp];rfl
theorem zbt (b h m:Nat)(a:List ByteArray)(w:Sw)(ay:0<a.length)(a8:a.length<=m)(M:b<w)(k:Cx w b h a):Calls prog 113 #[.slice (some (b h)) a.length m] w λe s=>e=.returned (.tuple #[Gz (S.Js (dat a)).1 (.slice none 0 0),((S.Js (dat a)).2:Nat)])/\Below w w s:=by
 have bc:=k.len;have bh:=k.2;have P:=S.P9 4 (dat a) (by rw[Cq];exact ay);have ax:=S.Ti 4 (dat a);rw[Cq]at P;obtain⟨n,q⟩:=Qyy (S.Da 4 (dat a));have az:U (S.Js (dat a)=(.mk 3 0 [] (S.Hy ((dat a).take n)) false [],n)):=V (by unfold S.Js;rw[q]);have an:U (∀l,Row l b h a->Calls prog 166 #[.slice (some (b h)) a.length m,(4:Int)] l λe s=>e=.returned n/\s=l):=V (λl al=>by
  have:=OH b h m a 4 l Z al;rw[q]at this;exact this)
 rw[q]at P ax;clear q;go_enter func113,ntmps113;go_wp2_with fail
 refine(an.q _ ((k.below ((Below.refl _ w).alloc (Qc _) _) M).row)).mono ?_;rintro e s⟨rfl,rfl⟩;have L:Below w w (w.alloc (.cells #[O,O,Sx,O,(),(),false,Sx] 110)):=(Below.refl _ w).alloc (Qc _) _;have T:=k.below L M;have C:(w.alloc (.cells #[O,O,Sx,O,(),(),false,Sx] 110)).heap.size=(w:Nat)+1:=Y;have R:=Ak w (.cells #[O,O,Sx,O,(),(),false,Sx] 110);have A:=Vm (w.alloc (.cells #[O,O,Sx,O,(),(),false,Sx] 110));rw[C]at A;generalize E:w.alloc (.cells #[O,O,Sx,O,(),(),false,Sx] 110)=ab at *;have a7:=V E;clear E;go_wp2;have av:=V A;have a0:=V R;have a1:=V T;have W:=V C;clear A R T C k;go_loopw [7,14] (λ_ i wr=>∃d:Nat,d<=n/\i=.int .i64 d/\Lib.IsBuilderF 104 5 ((w:Nat)+1) ((w:Nat)+1) (Lib.byteCells (S.Hy ((dat a).take d))) wr/\Below ((w:Nat)+1) ab wr) (λ_ i _=>n-(intOf i).toNat)
 case atStart=>
  refine⟨0,Qt _,rfl,?_,?_⟩;·simpa [S.Hy]using av.q
  exact Sr.alloc (by rw[W.q];exact Qc _) _
 case round=>
  obtain⟨d,bb,rfl,o,j⟩:=hrel;have a4:=j.size;have a2:=W.q;have t:(w:Nat)+1<=wr.heap.size:=Z;clear a4 a2;by_cases bd:d<n
  ·obtain⟨g,r⟩:∃g,a[d]?=some g:=⟨a[d],Qg Z⟩;have ba:wr.cell? (b (h+d))=some (.string g):=(j.cell (p:=⟨b,h+d,none⟩) (by show b<_;omega)).trans (a1.q.1 d g r);have a9:(d:Int)<(n:Int):=Z;have a3:g.size<=maxLen:=by have:=J6 a d g r;unfold maxLen;omega
   have aa:=V (TG a d g r);have N:=UE a (d+1);rw[aa.q,Qa,Qa,Qf,S.lda]at N;simp only[List.length_singleton]at N;have z:=V o;have y:=V j;clear r o j;go_wp2_with (fail);refine(Yq g 4 _ a3 Z Z).mono ?_;rintro e bi⟨D,rfl,Q,bf,rfl⟩;have bg:D.size=g.size-4:=by rw[<-S.lda,Q.q,Qf,S.lda];rfl
   go_wp2_with (fail);refine(Tryz.Vj ((w:Nat)+1) ((w:Nat)+1) _ D _ z.q (by rw[Lib.byteCells_length];omega) t).mono ?_;rintro e a5⟨rfl,F,x,_⟩;have am:(w:Nat)+1<=a5.heap.size:=Qj t x.size;have ap:=V F;have aq:=V x;clear F x;go_wp2_with (fail);refine(Tryz.Wu ((w:Nat)+1) ((w:Nat)+1) _ 10 _ (.inr ap.q) (by rw[Qa,Lib.byteCells_length,Lib.strCells_length];omega) am).mono ?_;rintro e bj⟨rfl,G,H,_⟩;have ao:=V G;have ar:=V H;clear G H;go_wp2;go_roundw
   case rel=>
    refine⟨d+1,Z,by go_num,?_,(y.q.trans aq.q).trans ar.q⟩;have:=ao.q;rw[AV _ D (g.data.toList.drop 4) Q.q,<-aa.q]at this;exact .inr this
   case measure=>exact Sj
  have aw:d=n:=Z;subst aw;have z:=V o;have y:=V j;clear o j;go_wp2_with fail
  refine(Tryz.Tz ((w:Nat)+1) ((w:Nat)+1) _ _ z.q t).mono ?_;rintro e bk⟨rfl,_,K,_⟩;have u:=y.q.trans K;have f:=u.block w Z;rw[a0.q]at f;have ac:=X f 0 _ rfl;have ae:=X f 1 _ rfl;have af:=X f 2 _ rfl;have ag:=X f 3 _ rfl;have ah:=X f 4 _ rfl;have ai:=X f 5 _ rfl;have aj:=X f 6 _ rfl;have ak:=X f 7 _ rfl;have a6:=Av f;have au:=V u;clear f u K;go_wp2;refine Sqk (v:=.tuple #[.agg #[(3:Int),O,Sx,O,(),.string ⟨(S.Hy ((dat a).take d)).toArray⟩,false,Sx],d]) (by simp[results,results113,go_sem,ac,ae,af,ag,ah,ai,aj,ak]) rfl ⟨?_,?_⟩;·rw[az.q];rfl
  repeat (refine Sqh ?_ Y _)
  exact L.trans (au.q.mono Z)
theorem Below.Ll {w w':Sw}(a:Below w w w'):w.grownBy w' none:=⟨a.os,a.tape,a.output,a.size,λf d _=>a.block f d⟩
theorem Tv {T e B b:Nat}{a:List Value}{w w':Sw}(l:Lib.IsBuilderF T e B b a w)(g:Below w w w'):Lib.IsBuilderF T e B b a w':=by
 have j:∀d,Lib.BuilderAtF T e B b d a w->Lib.BuilderAtF T e B b d a w':=by
  intro d h;have o:=h.lt;obtain⟨m,k,r,q,p⟩:=h;refine⟨m,k,(g.block b o).trans r,World.ownsRowF.kept q (Below.Ll g) ?_,p⟩;cases t:k.ownBlock with
  |none=>exact .inl rfl
  |some s=>exact .inr Y
 exact l.elim (λf=>.inl (j _ f)) (λf=>.inr (j _ f))
theorem Ya (c:UInt8)(g:Nat)(l:List (List UInt8))(k:Nat)(d:∀a,a<k->(l[a]?.map (S.Jg c g))=some false)(f:(l[k]?.map (S.Jg c g))≠some false):S.Ev c g l=k:=by
 induction l generalizing k with
 |nil=>cases k with
  |zero=>simp[S.Ev]
  |succ k=>have:=d 0 Z;simp at this
 |cons p o j=>cases k with
  |zero=>simp at f;simp[S.Ev,f]
  |succ k=>
   have h:=d 0 Z;simp at h;have:=j k (λa m=>by have:=d (a+1) Z;simpa using this) (by simpa using f);simp[S.Ev,this,h]
theorem XA (d:Nat)(a:List ByteArray)(k:Nat)(s:Sb)(f:a[k]?=some s):S.Ef d ((dat a).take (k+1))=S.Ef d ((dat a).take k)++(s.data.toList.drop (min d (S.Ap s))++[10]):=by
 have g:(dat a)[k]?=some s.data.toList:=by rw[Iy,f];rfl
 rw[Sv,g];simp[S.Ef]
theorem OT (f:Nat)(a:List ByteArray)(k:Nat):(S.Ef f ((dat a).take k)).length<=tot a:=by
 induction a generalizing k with
 |nil=>simp[S.Ef,dat,tot]
 |cons h g d=>cases k with
  |zero=>simp[S.Ef]
  |succ k=>
   have:=d k;simp only[S.Ef,dat,tot,Qs,Qz,List.flatten_cons,Qa,Qf,List.sum_cons,List.length_singleton]at *;rw[S.lda];omega
theorem zhm (b z b2:Nat)(bh:Sb)(d:List ByteArray)(c:UInt8)(l f:Nat)(info:Sb)(w:Sw)(cf:b<w)(af:Cx w b z (bh::d))(cx:f<=1000000):Calls prog 118 #[.slice (some (b z)) (d.length+1) b2,.agg #[.int .u8 (c.toNat:Int),l,f,info]] w λe k=>
   e=.returned (.tuple #[.agg #[(3:Int),O,Sx,O,info,(S.B (S.Ef f ((dat d).take (S.Ev c l (dat d))))),false,Sx],((min (S.Ev c l (dat d)+1+1) (d.length+1):Nat):Int)])/\Below w w k:=by
 have c1:=af.2;have ci:=af.len;simp only[Qd]at ci;go_enter func118,ntmps118;go_wp2;obtain⟨r,A⟩:=Qzz (((w.alloc (.cells #[.int .u8 (c.toNat:Int),l,f,info] 181)).alloc (.cells #[O,O,Sx,O,(),(),false,Sx] 110)).alloc (.cells #[(3:Int),O,Sx,O,info,(),false,Sx] 110));have ba:r.heap.size=(w:Nat)+3:=by rw[A];simp
 have a2:Below w w r:=by
  rw[A];exact(((Below.refl _ w).alloc (Qc _) _).alloc Y _).alloc (by simp;omega) _
 have bt:r.heap[w.heap.size]?=some (.cells #[.int .u8 (c.toNat:Int),l,f,info] 181):=by
  rw[A,Sqj _ _ _ (by simp;omega),Sqj _ _ _ Y];exact Ak _ _
 have bu:r.heap[(w:Nat)+1]?=some (.cells #[O,O,Sx,O,(),(),false,Sx] 110):=by
  have ar:(w.alloc (.cells #[.int .u8 (c.toNat:Int),l,f,info] 181)).heap.size=(w:Nat)+1:=Y;rw[A,Sqj _ _ _ Y,<-ar];exact Ak _ _
 have bw:r.heap[(w:Nat)+2]?=some (.cells #[(3:Int),O,Sx,O,info,(),false,Sx] 110):=by
  have ar:((w.alloc (.cells #[.int .u8 (c.toNat:Int),l,f,info] 181)).alloc (.cells #[O,O,Sx,O,(),(),false,Sx] 110)).heap.size=(w:Nat)+2:=Y;rw[A,<-ar];exact Ak _ _
 have a6:=Vm r;rw[ba]at a6;have br:=af.below a2 cf;rw[<-A];have cg:=V a6;have co:=V bt;have bv:=V bu;have bx:=V bw;have ck:=V br;have bs:=V ba;clear a6 bt bu bw br ba af A;go_loopw [8,9] (λi _ wr=>∃a:Nat,a<=d.length/\i=.int .i64 ((a:Int)+1)/\(∀x,x<a->((dat d)[x]?.map (S.Jg c l))=some false)/\Lib.IsBuilderF 104 5 ((w:Nat)+3) ((w:Nat)+3) (Lib.byteCells (S.Ef f ((dat d).take a))) wr/\Below ((w:Nat)+3) r wr) (λi _ _=>d.length+1-(intOf i).toNat)
 case atStart=>
  refine⟨0,Qt _,rfl,by intro x ch;omega,?_,?_⟩;·simpa [S.Ef]using cg.q
  exact Sr.alloc (by rw[bs.q];exact Qc _) _
 case round=>
  obtain⟨a,cy,rfl,bl,bn,aa⟩:=hrel;have cm:=aa.size;have cl:=bs.q;have G:(w:Nat)+3<=wr.heap.size:=Z;have F:=aa.block w Z;rw[co.q]at F;have bz:=X F 0 _ rfl;have b0:=X F 1 _ rfl;have bg:=X F 2 _ rfl;have b1:=X F 3 _ rfl;have R:=V bn;have D:=V aa;have K:=V bl;clear cm cl F bn aa bl;by_cases cj:a<d.length
  ·obtain⟨g,W⟩:∃g,d[a]?=some g:=⟨d[a],Qg cj⟩;have ag:(bh::d)[a+1]?=some g:=by simpa using W
   have a4:wr.cell? (b (z+(a+1)))=some (.string g):=(D.q.cell (p:=⟨b,z+(a+1),none⟩) (by show b<_;omega)).trans (ck.q.1 (a+1) g ag);have bc:g.size<=maxLen:=by have:=J6 _ _ g ag;unfold maxLen;omega
   have ct:(0:Int)<=(a:Int)+1:=Z;have cu:(a:Int)+1<(d.length:Int)+1:=Z;have aw:w<wr.heap.size:=Z;have ax:b<wr:=Z;have ae:(dat d)[a]?=some g.data.toList:=by rw[Iy,W];rfl
   have bd:=V (XA f d a g W);have a8:=OT f d (a+1);have c2:tot d<=1000000:=by
    have:tot d<=tot (bh::d):=(by simp[tot]);omega
   rw[bd.q,Qa,Qa,Qf,S.lda]at a8;simp only[List.length_singleton]at a8;have bp:S.Ap g.data.toList<=g.size:=by have:=S.Jz g.data.toList;rw[S.lda]at this;exact this
   cases E:S.Jg c (l:Int) g.data.toList
   ·have H:=V (λo=>E▸OP c (l:Int) (f:Int) info g o bc);have bm:U (∀x,x<a+1->((dat d)[x]?.map (S.Jg c l))=some false):=by
     intro x ch;by_cases e:x=a
     ·subst e;rw[ae,Sq,E]
     exact K.q x Z
    clear ae W ag E;go_wp2_with (fail);go_region_held3 (λk=>k.cell? w=some (.int .u8 (c.toNat:Int))/\k.cell? (w 1)=some (.int .i64 (l:Int))/\k.cell? (w 2)=some (.int .i64 (f:Int))/\k.cell? (w 3)=some (.string info)/\k.cell? (b (z+(a+1)))=some (.string g))
    ((refine⟨?_,?_,?_,?_,?_⟩<;>(first|assumption|(rw[T _ _ (by first|exact aw|exact ax)];assumption))))
    ((go_at_call 176;refine(H.q _).mono ?_;rintro e y⟨rfl,t⟩;obtain⟨T,a5⟩:=Na t))
    have q:Below wr wr y:=by first|exact t|exact Sr.drew.trans t
    have c3:=(q.cell (p:=⟨w,2,none⟩) aw).trans bg;have cv:=(q.cell (p:=⟨b,z+(a+1),none⟩) ax).trans a4;have ac:=V (Tv R.q q);have ab:=V (D.q.trans (q.mono G));have C:(w:Nat)+3<=y.heap.size:=Qj G q.size;obtain⟨m,ah⟩:=Qyy (S.Ap g.data.toList);have bk:U (∀o,Calls prog 112 #[.string g] o λe k=>e=.returned m/\k=o):=V (λo=>by
     have:=Kg g o bc;rw[ah]at this;exact this)
    have c0:m<=g.size:=Z;have bo:U (∀bj:Nat,bj=min f m->(g.extract bj g.size).data.toList=g.data.toList.drop (min f (S.Ap g.data.toList))):=V (by
     intro bj cn;rw[S.Iw,cn,ah])
    rw[ah]at a8;clear t T a5 q a4 bz b0 bg b1 bp ah H K R D;by_cases cz:f<=m
    ·have a9:min (f:Int) (m:Int)=(f:Int):=Z;have cd:(0:Int)<=(f:Int):=Z;have ce:(f:Int)<=(g.size:Int):=Z;have bf:=V (bo.q f Z);have cp:(g.extract f g.size).size+(S.Ef f ((dat d).take a)).length+1<=1000000:=(by rw[Sqc];omega);have ay:=V (λo aq au=>Tryz.Vj ((w:Nat)+3) ((w:Nat)+3) (Lib.byteCells (S.Ef f ((dat d).take a))) (g.extract f g.size) o aq (by rw[Lib.byteCells_length];omega) au);go_wp2_with (fail);go_region_held3 (λk=>k.cell? (w 2)=some (.int .i64 (f:Int)))
      ((first|assumption|(rw[u.cell (p:=⟨w,2,none⟩) Y];assumption)))
      (first|(go_at_call 112;refine(bk.q _).mono ?_;rintro e cq⟨rfl,rfl⟩)|(go_at_call 60;refine(ay.q y.drew (Tv ac.q Sr.drew) C).mono ?_;rintro e bi⟨rfl,L,u,_⟩))
     have av:(w:Nat)+3<=bi.heap.size:=Qj C u.size;have a0:=V L;have N:=V u;clear L u;go_wp2_with (fail);refine(Tryz.Wu ((w:Nat)+3) ((w:Nat)+3) _ 10 _ (.inr a0.q) (by rw[Qa,Lib.byteCells_length,Lib.strCells_length];omega) av).mono ?_;rintro e cr⟨rfl,M,P,_⟩;have az:=V M;have a1:=V P;clear M P;go_wp2;go_roundw
     case rel=>
      refine⟨a+1,Z,by go_num,bm.q,?_,?_⟩
      ·have:=az.q;rw[AV _ _ _ bf.q,<-bd.q]at this;exact .inr this
      exact(ab.q.trans (by first|exact N.q|exact Sr.drew.trans N.q)).trans a1.q
     case measure=>exact Sj
    have a9:min (f:Int) (m:Int)=(m:Int):=Z;have cd:(0:Int)<=(m:Int):=Z;have ce:(m:Int)<=(g.size:Int):=Z;have bf:=V (bo.q m Z);have cp:(g.extract m g.size).size+(S.Ef f ((dat d).take a)).length+1<=1000000:=(by rw[Sqc];omega);have ay:=V (λo aq au=>Tryz.Vj ((w:Nat)+3) ((w:Nat)+3) (Lib.byteCells (S.Ef f ((dat d).take a))) (g.extract m g.size) o aq (by rw[Lib.byteCells_length];omega) au);go_wp2_with (fail);go_region_held3 (λk=>k.cell? (w 2)=some (.int .i64 (f:Int)))
     ((first|assumption|(rw[u.cell (p:=⟨w,2,none⟩) Y];assumption)))
     (first|(go_at_call 112;refine(bk.q _).mono ?_;rintro e cq⟨rfl,rfl⟩)|(go_at_call 60;refine(ay.q y.drew (Tv ac.q Sr.drew) C).mono ?_;rintro e bi⟨rfl,L,u,_⟩))
    have av:(w:Nat)+3<=bi.heap.size:=Qj C u.size;have a0:=V L;have N:=V u;clear L u;go_wp2_with (fail);refine(Tryz.Wu ((w:Nat)+3) ((w:Nat)+3) _ 10 _ (.inr a0.q) (by rw[Qa,Lib.byteCells_length,Lib.strCells_length];omega) av).mono ?_;rintro e cr⟨rfl,M,P,_⟩;have az:=V M;have a1:=V P;clear M P;go_wp2;go_roundw
    case rel=>
     refine⟨a+1,Z,by go_num,bm.q,?_,?_⟩
     ·have:=az.q;rw[AV _ _ _ bf.q,<-bd.q]at this;exact .inr this
     exact(ab.q.trans (by first|exact N.q|exact Sr.drew.trans N.q)).trans a1.q
    case measure=>exact Sj
   have H:=V (λo=>E▸OP c (l:Int) (f:Int) info g o bc);have a7:U (S.Ev c l (dat d)=a):=V (Ya _ _ _ a K.q (by rw[ae,Sq,E];simp));clear ae W ag E;go_wp2_with (fail);go_region_held3 (λk=>k.cell? w=some (.int .u8 (c.toNat:Int))/\k.cell? (w 1)=some (.int .i64 (l:Int))/\k.cell? (w 2)=some (.int .i64 (f:Int))/\k.cell? (w 3)=some (.string info)/\k.cell? (b (z+(a+1)))=some (.string g))
   ((refine⟨?_,?_,?_,?_,?_⟩<;>(first|assumption|(rw[T _ _ (by first|exact aw|exact ax)];assumption))))
   ((go_at_call 176;refine(H.q _).mono ?_;rintro e y⟨rfl,t⟩;obtain⟨T,a5⟩:=Na t))
   have q:Below wr wr y:=by first|exact t|exact Sr.drew.trans t
   have ac:=V (Tv R.q q);have ab:=V (D.q.trans (q.mono G));have C:(w:Nat)+3<=y.heap.size:=Qj G q.size;have a9:min ((a:Int)+1+1) ((d.length:Int)+1)=(a:Int)+1+1:=Z;have bb:U (Ending.returned (.tuple #[.agg #[(3:Int),O,Sx,O,info,.string ⟨(S.Ef f ((dat d).take a)).toArray⟩,false,Sx],((a:Int)+1+1:Int)])=.returned (.tuple #[.agg #[(3:Int),O,Sx,O,info,(S.B (S.Ef f ((dat d).take a))),false,Sx],((min (a+1+1) (d.length+1):Nat):Int)])):=V (by
    rw[SI Z];rfl)
   clear t T a5 q a4 bz b0 bg b1 bp H K R D;go_wp2_with (fail);refine(Tryz.Tz ((w:Nat)+3) ((w:Nat)+3) _ _ ac.q C).mono ?_;rintro e cs⟨rfl,_,Q,_⟩;have s:=ab.q.trans Q;have h:=s.block ((w:Nat)+1) Z;rw[bv.q]at h;have j:=s.block ((w:Nat)+2) Z;rw[bx.q]at j;have ai:=X h 0 _ rfl;have aj:=X h 1 _ rfl;have ak:=X h 2 _ rfl;have al:=X h 3 _ rfl;have am:=X h 4 _ rfl;have an:=X h 5 _ rfl;have ao:=X h 6 _ rfl;have ap:=X h 7 _ rfl;have cb:=Av h;have b3:=X j 0 _ rfl;have b4:=X j 1 _ rfl;have b5:=X j 2 _ rfl;have b6:=X j 3 _ rfl;have b7:=X j 4 _ rfl;have b8:=X j 5 _ rfl;have b9:=X j 6 _ rfl;have ca:=X j 7 _ rfl;have cc:=Av j;have a3:=V s;clear h j s Q;go_wp2;refine Sqk (v:=.tuple #[.agg #[(3:Int),O,Sx,O,info,.string ⟨(S.Ef f ((dat d).take a)).toArray⟩,false,Sx],((a:Int)+1+1:Int)]) (by simp[results,results118,go_sem,ai,aj,ak,al,am,an,ao,ap]) rfl ⟨?_,?_⟩;·rw[a7.q];exact bb.q
   repeat (refine Sqh ?_ (by simp<;>omega) _)
   exact a2.trans (a3.q.mono Z)
  have bq:a=d.length:=Z;have a7:U (S.Ev c l (dat d)=a):=V (Ya _ _ _ a K.q (by rw[Qr (by rw[Cq];omega)];simp));have cw:decide ((a:Int)+1<(d.length:Int)+1)=false:=by rw[decide_eq_false_iff_not];omega
  have a9:min ((a:Int)+1+1) ((d.length:Int)+1)=(a:Int)+1:=Z;have bb:U (Ending.returned (.tuple #[.agg #[(3:Int),O,Sx,O,info,.string ⟨(S.Ef f ((dat d).take a)).toArray⟩,false,Sx],((a:Int)+1:Int)])=.returned (.tuple #[.agg #[(3:Int),O,Sx,O,info,(S.B (S.Ef f ((dat d).take a))),false,Sx],((min (a+1+1) (d.length+1):Nat):Int)])):=V (by
    rw[Nat.min_eq_right Z,<-bq];rfl)
  clear bq;go_wp2_with fail
  go_quiet (fail)
  go_wp2_with fail
  refine(Tryz.Tz ((w:Nat)+3) ((w:Nat)+3) _ _ (Tv R.q (below_drewN Sr _)) G).mono ?_;rintro e cs⟨rfl,_,Q,_⟩;have s:=(below_drewN D.q _).trans Q;have h:=s.block ((w:Nat)+1) Z;rw[bv.q]at h;have j:=s.block ((w:Nat)+2) Z;rw[bx.q]at j;have ai:=X h 0 _ rfl;have aj:=X h 1 _ rfl;have ak:=X h 2 _ rfl;have al:=X h 3 _ rfl;have am:=X h 4 _ rfl;have an:=X h 5 _ rfl;have ao:=X h 6 _ rfl;have ap:=X h 7 _ rfl;have cb:=Av h;have b3:=X j 0 _ rfl;have b4:=X j 1 _ rfl;have b5:=X j 2 _ rfl;have b6:=X j 3 _ rfl;have b7:=X j 4 _ rfl;have b8:=X j 5 _ rfl;have b9:=X j 6 _ rfl;have ca:=X j 7 _ rfl;have cc:=Av j;have a3:=V s;clear h j s Q;go_wp2;refine Sqk (v:=.tuple #[.agg #[(3:Int),O,Sx,O,info,.string ⟨(S.Ef f ((dat d).take a)).toArray⟩,false,Sx],((a:Int)+1:Int)]) (by simp[results,results118,go_sem,ai,aj,ak,al,am,an,ao,ap]) rfl ⟨?_,?_⟩;·rw[a7.q];exact bb.q
  repeat (refine Sqh ?_ (by simp<;>omega) _)
  exact a2.trans (a3.q.mono Z)
