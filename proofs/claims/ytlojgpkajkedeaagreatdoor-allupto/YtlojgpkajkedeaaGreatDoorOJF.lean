import Derived.Test.YtlojgpkajkedeaaGreatDoorOEB
import Derived.BigRegion
set_option maxHeartbeats 0
set_option maxRecDepth 100000
namespace Go.Proofs.YtlojgpkajkedeaaGreatDoor
open Go.RowKit Go.Proofs.Tryz
namespace S
theorem zkk (m:Int)(z k:Nat)(l:List (List UInt8))(g:z<=k):F9 m z k l=z\/k+1<=F9 m z k l:=by
 induction l generalizing z k with
 |nil=>exact .inl rfl
 |cons h f d=>
  simp only[F9];split
  ·rcases d z (k+1) Z with a|a
   ·exact .inl a
   exact .inr Z
  split
  ·exact .inl rfl
  have:=VY m (k+1) (k+1) f (Qc _);exact .inr this
theorem XU (m:Int)(z k n:Nat)(l:List (List UInt8))(h:z<=k)(a:F9 m z k l<=k+n):F9 m z k (l.take n)=F9 m z k l:=by
 induction l generalizing z k n with
 |nil=>simp
 |cons p o g=>
  cases n with
  |zero=>
   rcases zkk m z k (p::o) h with f|f
   ·rw[f];rfl
   omega
  |succ n=>
   simp only[Qz,F9]at a ⊢;split
   ·rename_i d;rw[if_pos d]at a;exact g z (k+1) n Z Z
   rename_i d;rw[if_neg d]at a;split
   ·rfl
   rename_i j;rw[if_neg j]at a;exact g (k+1) (k+1) n (Qc _) Z
theorem TJ (m:Int)(n:Nat)(l:List (List UInt8))(a:Da m l<=n):Da m (l.take n)=Da m l:=by
 have f:=Ti m l;cases n with
 |zero=>omega
 |succ n=>
  cases l with
  |nil=>simp
  |cons g d=>
   simp only[Da,Qz,List.tail_cons]at a ⊢;exact XU m 1 1 n d (Qc _) Z
theorem ZT (l:List (List UInt8))(n:Nat):Az (l.take n)=min (Az l) n:=by
 induction l generalizing n with
 |nil=>simp[Az]
 |cons f d a=>
  cases n with
  |zero=>simp[Az]
  |succ n=>
   simp only[Qz,Az];split
   ·rw[a];omega
   simp
theorem zjo (c:UInt8)(w:Nat)(l:List (List UInt8))(n:Nat)(a:Ev c w l<=n):Ev c w (l.take n)=Ev c w l:=by
 induction l generalizing n with
 |nil=>simp
 |cons h g f=>
  simp only[Ev]at a;cases n with
  |zero=>
   split at a
   ·rename_i d;simp[Ev,d]
   omega
  |succ n=>
   simp only[Qz,Ev];split
   ·rfl
   rename_i d;rw[if_neg d]at a;rw[f n Z]
theorem ziw (l:List (List UInt8))(n:Nat)(a:Dw l<=n):Dw (l.take n)=Dw l:=by
 induction l generalizing n with
 |nil=>simp
 |cons h g f=>
  simp only[Dw]at a;cases n with
  |zero=>
   split at a
   ·rename_i d;simp[Dw,d]
   omega
  |succ n=>
   simp only[Qz,Dw];split
   ·rfl
   rename_i d;rw[if_neg d]at a;rw[f n Z]
theorem zeg (l:List (List UInt8))(n:Nat)(a:(Bn l).length<=n):Bn (l.take n)=Bn l:=by
 induction l generalizing n with
 |nil=>simp
 |cons h g f=>
  simp only[Bn]at a;cases n with
  |zero=>
   split at a
   ·simp at a
   rename_i d;simp[Bn,d]
  |succ n=>
   simp only[Qz,Bn];split
   ·rename_i d;rw[if_pos d]at a;rw[f n (by simpa using a)]
   rfl
theorem znl (l:List UInt8):Ar l=true↔∀b∈l,b=32:=by
 unfold Ar Ap;rw[decide_eq_true_eq];induction l with
 |nil=>simp[cnt]
 |cons c g f=>
  have h:=Gf 32 g;simp only[cnt,Qd];split
  ·rename_i d;constructor
   ·intro e b a;rcases Sc.1 a with rfl|a
    ·exact d
    exact f.1 Z b a
   intro e;rw[f.2 (λb a=>e b (Qo _ a))]
  rename_i d;constructor
  ·intro e;omega
  intro e;exact absurd (e c Y) d
theorem zjw (l:List UInt8)(a k:Nat)(h:a<=k)(f:Ar (l.drop a)=true):Ar (l.drop k)=true:=by
 rw[znl]at f ⊢;intro b g;apply f b
 obtain⟨d,rfl⟩:∃d,k=a+d:=⟨k-a,Z⟩;rw[<-Qbb]at g;exact List.mem_of_mem_drop g
theorem ZH (l:List UInt8)(f:(Ae l).ok=true)(a:(Ae l).empty=true):Ar (l.drop (Ae l).Ao)=true:=by
 unfold Ae at f a ⊢;split at f
 ·simp at f
 rename_i d;rw[if_neg d]at a ⊢;dsimp only at a ⊢;have hd:¬4<=Ap l:=by
  intro g;rw[Xf l g]at d;exact d (.inl (by simp[Bh]))
 rw[Yt l hd]at a ⊢;rw[Qbb]at a;exact zjw l _ _ Z a
def Quiet (f:List (List UInt8)->List Ac×Bool):Prop:=∀a,(∀d∈a,Ar d=true)->f a=([],false)
theorem zbu (k:List (List UInt8)->List Ac×Bool)(q:Quiet k)(l:List UInt8)(r:List (List UInt8))(n:Nat)(u:(Ae l).ok=true)(j:(Ay (Ae l) (l::r)).length<=n):(Ay (Ae l) ((l::r).take n)).length=(Ay (Ae l) (l::r)).length/\k (Ay (Ae l) ((l::r).take n))=k (Ay (Ae l) (l::r)):=by
 have s:=Ww (Ae l) (l::r) Y;by_cases a:(Ae l).empty=true/\((l::r)[1]?.map Ar)=some true
 ·have h:Ay (Ae l) (l::r)=[[]]:=by unfold Ay;rw[if_pos a]
  rw[h]at j s ⊢;by_cases f:2<=n
  ·have d:Ay (Ae l) ((l::r).take n)=[[]]:=by
    unfold Ay;rw[if_pos ⟨a.1,by rw[Qbe Z];exact a.2⟩]
   rw[d];exact⟨rfl,rfl⟩
  have t:n=1:=by simp at j;omega
  subst t;have d:Ay (Ae l) ((l::r).take 1)=[l.drop (Ae l).Ao]:=by
   unfold Ay;rw[if_neg Y];simp[Da,F9]
  rw[d];refine⟨rfl,?_⟩;rw[q _ (by intro m g;simp at g;subst g;exact ZH l u a.1),q _ (by intro m g;simp at g;subst g;rfl)]
 have h:Ay (Ae l) (l::r)=((l::r).take (Da (Ae l).Ao (l::r))).map (λm=>m.drop (Ae l).Ao):=by unfold Ay;rw[if_neg a]
 have v:=P9 ((Ae l).Ao:Int) (l::r) Y;have p:Da (Ae l).Ao (l::r)<=n:=by
  rw[h,List.length_map,Ql]at j;omega
 have d:Ay (Ae l) ((l::r).take n)=Ay (Ae l) (l::r):=by
  rw[h];unfold Ay;rw[if_neg,TJ _ n _ p,List.take_take,SI p];intro o;apply a
  refine⟨o.1,?_⟩;have f:=o.2;rw[List.getElem?_take]at f;split at f
  ·exact f
  simp at f
 rw[d];exact⟨rfl,rfl⟩
theorem XR (q:List (List UInt8)->List Ac×Bool)(t:Quiet q)(kind:UInt8)(p:Nat):∀(a:List UInt8) (f:List (List UInt8)) (n l o r:Nat),(Ae a).ok=true->(a::f).length<=p->((a::f).take n).length<=r->(a::f).length<=l->((a::f).take n).length<=o->l-(a::f).length=o-((a::f).take n).length->(Bt q kind l p (Ae a) (a::f)).2.2<=n->Bt q kind o r (Ae a) ((a::f).take n)=Bt q kind l p (Ae a) (a::f):=by
 induction p with
 |zero=>intro a f n l o r _ L;simp at L
 |succ p ae=>
  intro a f n l o r ab R ah af ag ac h;obtain⟨row,al⟩:=Qzz (a::f);have am:=Zf q kind l (p+1) (Ae a) (a::f) Y R;have ai:1<=((a::f).take n).length:=by rw[Ql,Qd];omega
  obtain⟨v,rfl⟩:∃v,r=v+1:=⟨r-1,Z⟩;rw[Kv]at h;rw[Kv,Kv];have N:=Ww (Ae a) (a::f) Y;obtain⟨d,x⟩:=Qyy ((Ay (Ae a) (a::f)).length);have P:d<=n:=by
   rw[x]at h;split at h
   ·dsimp only at h;omega
   exact h
  have E:=zbu q t a f n ab (by rw[x];exact P);rw[E.1,E.2];rw[x]at h N ⊢;have Q:((a::f).take n).drop d=((a::f).drop d).take (n-d):=List.drop_take;rw[Q,ZT];obtain⟨g,D⟩:=Qyy (Az ((a::f).drop d));rw[D]at h ⊢;have T:=Ru ((a::f).drop d);rw[D,Qf]at T;have H:((o-((a::f).take n).length:Nat):Int)=((l-(a::f).length:Nat):Int):=by rw[ac]
  by_cases m:(Cj kind ((a::f).drop (d+g))).ok=true
  ·rw[if_pos m]at h;rw[if_pos m];dsimp only at h;have F:=Zq _ _ m;cases hd:(a::f).drop (d+g) with
   |nil=>rw[hd]at F;simp at F
   |cons j k=>
    rw[hd]at h m;have A:=O6 kind j k m;have s:(j::k).length=(a::f).length-(d+g):=(by rw[<-hd,Qf]);have G:=Zf q kind l p (Ae j) (j::k) Y (by rw[s];omega);rw[A.1]at h;have W:min g (n-d)=g:=Z;rw[W];have C:((a::f).take n).drop (d+g)=(j::k).take (n-(d+g)):=(by rw[List.drop_take,hd]);have aa:∃K,(j::k).take (n-(d+g))=j::K:=⟨k.take (n-(d+g)-1),by
     obtain⟨u,t⟩:∃u,n-(d+g)=u+1:=⟨n-(d+g)-1,Z⟩;rw[t];rfl⟩
    have z:Cj kind ((j::k).take (n-(d+g)))=Cj kind (j::k):=by
     obtain⟨K,M⟩:=aa;rw[M];rfl
    rw[C,z,if_pos m,A.1];have y:((j::k).take (n-(d+g))).length=((a::f).take n).length-(d+g):=(by rw[<-C,Qf]);have aj:d+g<=((a::f).take n).length:=(by rw[Ql];rw[s]at G;omega);rw[ae j k (n-(d+g)) l o v A.2.2 (by rw[s];omega) (by rw[y];omega) Z (by rw[y];omega) (by rw[s,y];rw[s]at G;omega) Z,H]
  rw[if_neg m]at h;rw[if_neg m];have z:¬(Cj kind (((a::f).take n).drop (d+min g (n-d)))).ok=true:=by
   by_cases ak:g<n-d
   ·rw[SI Z,List.drop_take];obtain⟨u,t⟩:∃u,n-(d+g)=u+1:=⟨n-(d+g)-1,Z⟩;rw[t];cases hd:(a::f).drop (d+g) with
    |nil=>simp[Cj]
    |cons j k=>rw[hd]at m;exact m
   rw[Nat.min_eq_right Z,show d+(n-d)=n by omega,Qw (by rw[Ql];omega)];simp[Cj]
  rw[if_neg z,H]
theorem WZ (g:List (List UInt8)->List Ac×Bool)(y:Quiet g)(d:List UInt8)(r:List (List UInt8))(n:Nat)(a:(A8 g (d::r)).2<=n):A8 g ((d::r).take n)=A8 g (d::r):=by
 by_cases o:(d::r).length<=n
 ·rw[Qbj o]
 have z:=Tk g d r;obtain⟨f,rfl⟩:∃f,n=f+1:=⟨n-1,Z⟩;have D:f<r.length:=by simp only[Qd]at o;omega
 rw[Qz];clear z;unfold A8 at a ⊢;dsimp only at a ⊢;split
 ·rename_i j;rw[if_pos j]at a;unfold Js at a ⊢;dsimp only at a;rw[<-Qz,TJ _ _ _ a,List.take_take,SI a]
 rename_i j;rw[if_neg j]at a;split
 ·rfl
 rename_i t;rw[if_neg t]at a;split
 ·rfl
 rename_i u;rw[if_neg u]at a;split
 ·rename_i k;rw[if_pos k]at a;unfold Km at a ⊢;simp only[List.tail_cons,Qd]at a ⊢;obtain⟨s,m⟩:=Qyy (Ev (Bp d).mark (Bp d).width r);rw[m]at a ⊢;rw[zjo _ _ _ _ (by rw[m];omega),m,List.take_take,SI Z,Ql];congr 1
  omega
 rename_i k;rw[if_neg k]at a;split
 ·rename_i l;rw[if_pos l]at a;rw[<-Qz,zeg _ _ a]
 rename_i l;rw[if_neg l]at a;split
 ·rename_i h;rw[if_pos h,Lp]at a;rw[Lp,Lp,<-Qz];rw[XR g y (Ae d).kind (d::r).length d r (f+1) (d::r).length ((d::r).take (f+1)).length ((d::r).take (f+1)).length h (Qc _) (Qc _) (Qc _) (Qc _) Z a]
 rename_i h;rw[if_neg h]at a;unfold Cr at a ⊢;dsimp only at a ⊢;simp only[List.tail_cons]at a ⊢;have q:Dw r<=f:=by
  split at a
  ·dsimp only at a;omega
  split at a
  ·dsimp only at a;omega
  dsimp only at a;omega
 rw[ziw r f q];have A:(d::r.take f).take (Dw r+1)=(d::r).take (Dw r+1):=by
  rw[Qz,Qz,List.take_take,SI q]
 rw[A];have v:(d::r.take f)[Dw r+1]?=if Dw r<f then (d::r)[Dw r+1]? else none:=by
  rw[List.getElem?_cons_succ,List.getElem?_cons_succ,List.getElem?_take]
 rw[v];by_cases p:Dw r<f
 ·rw[if_pos p]
 rw[if_neg p];dsimp only;split
 ·rfl
 rename_i E x;split
 ·rename_i C;rw[x]at a;dsimp only at a;rw[if_pos C]at a;dsimp only at a;omega
 rfl
theorem JX (d:Nat):Quiet (Ag d):=by
 intro a f;cases d with
 |zero=>rfl
 |succ d=>
  show rowFrom (Ag d) a.length a.length (a.drop (Az a))=_;have h:Az a=a.length:=by
   clear d;induction a with
   |nil=>rfl
   |cons g m k=>simp only[Az];rw[if_pos (f g Y),k (λl j=>f l (by simp[j]))];rfl
  rw[h,List.drop_length,K6]
theorem XI (l:List (List UInt8))(n:Nat):bytes (l.take n)<=bytes l:=by
 induction l generalizing n with
 |nil=>simp
 |cons f d a=>
  cases n with
  |zero=>simp[bytes]
  |succ n=>have:=a n;simp only[Qz,bytes,Qs,List.sum_cons]at *;omega
theorem zck (d a:Nat)(j g:List UInt8)(r f:List (List UInt8))(hd:bytes (j::r)<=d)(p:bytes (g::f)<=a)
  (l:(j::r).take (A8 (Ag d) (j::r)).2=(g::f).take (A8 (Ag a) (g::f)).2) :
  (A8 (Ag d) (j::r)).1=(A8 (Ag a) (g::f)).1:=by
 have m:=WZ (Ag d) (JX d) j r _ (Qc _);have o:=WZ (Ag a) (JX a) g f _ (Qc _);rw[<-m,<-o,l];obtain⟨h,k⟩:=Qyy ((g::f).take (A8 (Ag a) (g::f)).2);have s:bytes h<=d:=by
  rw[<-k,<-l];exact Qj (XI _ _) hd
 have t:bytes h<=a:=by
  rw[<-k];exact Qj (XI _ _) p
 rw[k,VP (Ag d) (Ag a) (bytes h) (λq u=>zic d a q Z Z) h (Qc _)]
end S
def NZ (s:Sb)(w w':Sw)(v:Value):Prop:=Co w' (λd=>w.heap.size<=d/\d<w') v (S.Ag (s.size+1) (S.Aw s)).1/\Below w w w'/\∃(b f:Nat) (a:List ByteArray),dat a=S.Aw s/\a.length<=1000000/\(a≠[]->w.heap.size<=b/\b<w'.heap.size/\Cx w' b 0 a)/\Xq b 0 f s.size a w' v
theorem zee (s:Sb)(w:Sw)(R:s.size<=999990)(r:Env w):Calls prog 45 #[s] w λe o=>∃m,e=.returned m/\NZ s w o m:=by
 by_cases d:s.size=0
 ·have E:U (S.Ag (s.size+1) (S.Aw s)=([],false)):=V (by
   rw[S.U1 s d];rfl)
  have F:U (S.Aw s=[]):=V (by rw[S.U1 s d];rfl);have A:=V (JJ s w d);have y:=V (JM w);clear d;go_enter func45,ntmps45;go_wp2_with fail
  apply A.m;rintro e o⟨rfl,rfl⟩;go_wp2_with fail
  apply y.m;rintro e o⟨rfl,rfl⟩;go_wp2;go_ret;refine⟨_,rfl,by rw[E.q];exact .nil,Sr,0,0,[],by rw[F.q];rfl,Y,λv=>absurd rfl v,?_⟩;intro i ab t;have e:(S.Ag (s.size+1) (dat [])).1=[]:=rfl;rw[e]at t;simp at t
 have C:=V (TN s w Z Z r);go_enter func45,ntmps45;go_wp2_with fail
 apply C.m;rintro e P⟨a,rfl,l,g,k,f⟩;have q:bytes (dat a)<s.size+1:=by
  rw[g.q];unfold S.Aw;split;·simp[bytes]
  have Q:=BL (Lib.trimSuffix s.data.toList [10]);have x:=Lib.trimSuffix_le s.data.toList [10];rw[S.lda]at x;omega
 have H:a.length<=1000000:=by
  have:=S.TK s;rw[<-g.q,Cq,S.lda]at this;omega
 have z:=V (zlz s.size (Uz s.size) (OD s.size (Uz s.size)) w 0 a.length a P (Qc _) k l (r.below f) q);have D:=V f;have M:=f.size;have L:=V l;clear f l q;go_wp2_with fail
 apply z.m;rintro e ac⟨m,rfl,h,p,u⟩;obtain⟨T,aa,W,rfl⟩:=h.form;rw[g.q]at h;have K:=V h;have j:=V p;have G:=V u;clear h p u;go_wp2;go_ret;exact⟨_,rfl,K.q.move (λae N=>⟨Z,N.2⟩) (λ_ _=>rfl),D.q.trans (j.q.mono M),w,a.length,a,g.q,H,λ_=>⟨Qc _,Qh k j.q.size,L.q.below j.q k⟩,G.q⟩
def Own (t:S.Ac)(L:List (List UInt8)):Prop:=∃(f:Nat) (d:List UInt8) (a:List (List UInt8)),bytes (d::a)<=f/\t.put 0=(S.A8 (S.Ag f) (d::a)).1.put 0/\L=(d::a).take (S.A8 (S.Ag f) (d::a)).2
theorem zmv {t a:S.Ac}{L:List (List UInt8)}(g:Own t L)(h:Own a L):t.put 0=a.put 0:=by
 obtain⟨d,s,q,j,l,o⟩:=g;obtain⟨f,u,r,k,m,p⟩:=h;rw[l,m,S.zck d f s u q r j k (by rw[<-o,<-p])]
theorem zdv (d k:Nat)(a:List (List UInt8))(m:k<a.length)(hd:bytes a<=d)(t:S.Ac)(g:t=(S.A8 (S.Ag d) (a.drop k)).1.put (k:Int)):Own t ((a.drop k).take (S.A8 (S.Ag d) (a.drop k)).2):=by
 cases f:a.drop k with
 |nil=>have:=congrArg List.length f;rw[Qf]at this;simp at this;omega
 |cons l j=>
  rw[f]at g;have h:=Nw a k;rw[f]at h;exact⟨d,l,j,Z,by rw[g,YK],rfl⟩
def Tl.shift (c:Int)(a:Tl):Tl:=⟨a.level,a.text,a.line+c⟩
mutual
theorem MC:∀(b:S.Ac) (a c:Int),Er (a+c) b=(Er a b).map (Tl.shift c)
 |.at_ d j n i l k Ab=>by
  intro a c;have g:=OJ Ab (a+d) c;simp only[Er,Qv];rw[show a+c+d=a+d+c by omega,g];congr 1
  split
  ·simp[Tl.shift]
  rfl
theorem OJ:∀(f:List S.Ac) (a c:Int),Bf (a+c) f=(Bf a f).map (Tl.shift c)
 |[]=>by intro a c;simp[Bf]
 |b::h=>by intro a c;simp only[Bf,Qv];rw[MC b a c,OJ h a c]
end
theorem zk9 (b:S.Ac):Er 0 b=(Er 0 (b.put 0)).map (Tl.shift b.line):=by
 rw[<-MC];cases b with
 |at_ a d n i g f Ab=>
  simp only[S.Ac.put,S.Ac.line,Er];rw[show (0:Int)+a+0=0+a by omega]
theorem zma {t a:S.Ac}(d:t.put 0=a.put 0):Gs Bg false t=Gs Bg false a:=by
 rw[<-BZ false 0 t,<-BZ false 0 a,d]
def Moves (A A':Nat->Prop)(w w':Sw):Prop:=w.heap.size<=w'.heap.size/\∀a,A a->a<w.heap.size->A' a/\w'.heap[a]?=w.heap[a]?
theorem Moves.of {A:Nat->Prop}{w w':Sw}(a:Below w w w'):Moves A A w w':=⟨a.size,λg f d=>⟨f,a.block g d⟩⟩
theorem Moves.set {A:Nat->Prop}(a g:Nat)(f:¬A a)(w:Sw)(v:Value):Moves A A w (w.setCell (a g) v):=
 ⟨by simp[World.setCell],λh d _=>⟨d,Below.heap_setCell _ _ _ _ (λe:h=a=>f (e▸d))⟩⟩
def Vt (A:Nat->Prop)(w:Sw)(a:So)(l:List Tl):Prop:=∀(i:Nat) (h:Tl),l[i]?=some h->∃d,a=some ⟨d,0,none⟩/\A d/\d<w.heap.size/\∀f g,(Cc h)[f]?=some g->w.cell? ⟨d,i*3+f,none⟩=some g
theorem Vt.move {A A':Nat->Prop}{w w':Sw}{a:So}{l:List Tl}(k:Vt A w a l)(g:Moves A A' w w'):Vt A' w' a l:=by
 intro i s p;obtain⟨d,m,h,f,o⟩:=k i s p;exact⟨d,m,(g.2 d h f).1,Qh f g.1,λj r q=>(World.cell?_of_block (a:=⟨d,i*3+j,none⟩) (g.2 d h f).2).trans (o j r q)⟩
theorem zbg (l:List Tl)(i a:Nat)(j:Tl)(d:l[i]?=some j)(m:a<3):(Cb l)[3*i+a]?=(Cc j)[a]?:=by
 induction l generalizing i with
 |nil=>simp at d
 |cons g h k=>
  have f:(Cc g).length=3:=rfl;cases i with
  |zero=>
   simp at d;subst d;show (Cc g++Cb h)[3*0+a]?=_;rw[Qbd (by rw[f];omega)];simp
  |succ i=>
   have:=k i (by simpa using d);show (Cc g++Cb h)[3*(i+1)+a]?=_;rw[Qu (by rw[f];omega),f,<-this];congr 1;omega
theorem Bw.row {B:Nat}{a:So}{r:Nat}{l:List Tl}{w:Sw}(h:Bw B a r l w){A:Nat->Prop}(t:∀g,B<=g->A g):Vt A w a l:=by
 intro i q m;rcases h.2 with ⟨_,j⟩|⟨g,x,y,s,j,_⟩
 ·have:=(Qb.1 m).1;omega
 injection s with e1 e2 e3
 subst e1;have k:∀d f,(Cc q)[d]?=some f->w.cell? ⟨g,i*3+d,none⟩=some f:=by
  intro d f o;have v:d<3:=by have:=(Qb.1 o).1;simpa [Cc]using this
  have p:=zbg l i d q m v;rw[o]at p;have:=h.cells (g:=g) rfl (3*i+d) f p;have u:(⟨g,0,none⟩:Addr).add (3*i+d)=⟨g,i*3+d,none⟩:=by
   simp only[Addr.add];split;·rename_i h;simp<;>omega
   simp<;>omega
  rwa [u]at this
 exact⟨g,rfl,t g j,Sqf _ _ (k 0 _ rfl),k⟩
def K7 (l:List Pm):List Value:=(l.map J8).flatten
theorem zlt (l:List Pm)(a:Pm):K7 (l++[a])=K7 l++J8 a:=by simp[K7]
theorem zdq (l:List Pm)(i a:Nat)(j:Pm)(d:l[i]?=some j)(m:a<6):(K7 l)[6*i+a]?=(J8 j)[a]?:=by
 induction l generalizing i with
 |nil=>simp at d
 |cons g h k=>
  have f:(J8 g).length=6:=rfl;cases i with
  |zero=>
   simp at d;subst d;show (J8 g++K7 h)[6*0+a]?=_;rw[Qbd (by rw[f];omega)];simp
  |succ i=>
   have:=k i (by simpa using d);show (J8 g++K7 h)[6*(i+1)+a]?=_;rw[Qu (by rw[f];omega),f,<-this];congr 1;omega
def Md (A:Nat->Prop)(w:Sw)(p:Pm)(t:S.Ac):Prop:=Own t (dat p.ss)/\p.at_=t.line/\p.page=S.B (Gs Bg false t)/\(∃a d,p.tv=.slice a (Er 0 (t.put 0)).length d/\Vt A w a (Er 0 (t.put 0)))/\A p.lb/\p.lb<w.heap.size/\Cx w p.lb p.lo p.ss/\p.ss.length<=1000000
theorem Cx.move {A A':Nat->Prop}{w w':Sw}{b d:Nat}{g:List ByteArray}(f:Cx w b d g)(l:Moves A A' w w')(h:A b)(j:b<w):Cx w' b d g:=
 ⟨λi m k=>(World.cell?_of_block (a:=⟨b,d+i,none⟩) (l.2 b h j).2).trans (f.1 i m k),f.2⟩
theorem Md.move {A A':Nat->Prop}{w w':Sw}{p:Pm}{t:S.Ac}(j:Md A w p t)(a:Moves A A' w w'):Md A' w' p t:=by
 obtain⟨k,l,m,⟨g,h,o,q⟩,f,d,r,s⟩:=j;exact⟨k,l,m,⟨g,h,o,q.move a⟩,(a.2 _ f d).1,Qh d a.1,r.move a f d,s⟩
def O7 (A:Nat->Prop)(w:Sw)(a:So)(ps:List Pm):Prop:=∀(i:Nat) (g:Pm),ps[i]?=some g->∃d,a=some ⟨d,0,none⟩/\A d/\d<w.heap.size/\∀f h,(J8 g)[f]?=some h->w.cell? ⟨d,i*6+f,none⟩=some h
theorem O7.move {A A':Nat->Prop}{w w':Sw}{a:So}{ps:List Pm}(k:O7 A w a ps)(g:Moves A A' w w'):O7 A' w' a ps:=by
 intro i r o;obtain⟨d,l,h,f,m⟩:=k i r o;exact⟨d,l,(g.2 d h f).1,Qh f g.1,λj q p=>(World.cell?_of_block (a:=⟨d,i*6+j,none⟩) (g.2 d h f).2).trans (m j q p)⟩
theorem zet {B:Nat}{a:So}{r:Nat}{l:List Pm}{w:Sw}(h:w.ownsRow B 101 6 (.slice a l.length r) l.length (K7 l)){A:Nat->Prop}(t:∀g,B<=g->A g):O7 A w a l:=by
 intro i q m;rcases h.2 with ⟨_,j⟩|⟨g,x,y,s,j,_⟩
 ·have:=(Qb.1 m).1;omega
 injection s with e1 e2 e3
 subst e1;have k:∀d f,(J8 q)[d]?=some f->w.cell? ⟨g,i*6+d,none⟩=some f:=by
  intro d f o;have v:d<6:=by have:=(Qb.1 o).1;simpa [J8]using this
  have p:=zdq l i d q m v;rw[o]at p;have:=h.cells (g:=g) rfl (6*i+d) f p;have u:(⟨g,0,none⟩:Addr).add (6*i+d)=⟨g,i*6+d,none⟩:=by
   simp only[Addr.add];split;·rename_i h;simp<;>omega
   simp<;>omega
  rwa [u]at this
 exact⟨g,rfl,t g j,Sqf _ _ (k 0 _ rfl),k⟩
theorem O7.row {A:Nat->Prop}{w:Sw}{a:So}{ps:List Pm}(j:O7 A w a ps)(r:∀(i:Nat) (d:Pm),ps[i]?=some d->∃g,Md A w d g):U4 w a ps:=by
 intro i d f;obtain⟨h,k,_,l,m⟩:=j i d f;obtain⟨g,_,_,_,_,_,o,p,q⟩:=r i d f;exact⟨h,k,l,m,o,p,q⟩
def Gp (s:Sb):List S.Ac:=(S.Ag (s.size+1) (S.Aw s)).1
def Gq (A:Nat->Prop)(j:Nat)(w:Sw)(s:Sb):Prop:=s.size<=1500/\∃(d:So) (h:Nat) (a:List Pm),w.heap[j]?=some (.cells #[s,.slice d a.length h] 94 (0,0))/\a.length=(Gp s).length/\O7 A w d a/\∀(i:Nat) (f:Pm) (g:S.Ac),a[i]?=some f->(Gp s)[i]?=some g->Md A w f g
theorem Gq.lt {A:Nat->Prop}{a:Nat}{w:Sw}{s:Sb}(d:Gq A a w s):a<w:=by
 obtain⟨j,g,h,o,f,k,l,m⟩:=d;exact(Qq.1 f).1
theorem Gq.move {A A':Nat->Prop}{a:Nat}{w w':Sw}{s:Sb}(h:Gq A a w s)(d:Moves A A' w w')(q:w'.heap[a]?=w.heap[a]?):Gq A' a w' s:=by
 obtain⟨j,f,g,u,k,l,m,o⟩:=h;exact⟨j,f,g,u,q.trans k,l,m.move d,λi t v p r=>(o i t v p r).move d⟩
theorem Ym (s:Sb)(h:s.size<=1500):(Gp s).length<=20000:=by
 have d:=S.L8 s;rw[S.lda]at d;have a:=Td (s.size+1) (S.Aw s) Z;have f:=X9 (Gp s);have g:=a.2.1;unfold Gp at f ⊢;omega
def GV (A:Nat->Prop)(f:Sw)(m:List S.Ac)(l:Nat)(a:So)(n g:Nat)(wr:Sw):Prop:=
 ∃d:List Pm,n=d.length/\d.length=l/\wr.ownsRow f 101 6 (.slice a n g) n (K7 d)/\Below f f wr/\∀(i:Nat) (h:Pm) (j:S.Ac),d[i]?=some h->m[i]?=some j->Md (λk=>A k/\(Value.slice a n g).ownBlock≠some k) wr h j
def Gr (d:Nat)(w w':Sw):Prop:=Below d w w'/\∀a,a<w.heap.size->a≠d->w'.heap[a]?=w.heap[a]?
theorem Tryz.zfz:(prog.info? 101).map (λi=>(i.zero,i.size,i.bytes))=some (some (.agg #[Sx,.int .u64 0,.int .u64 0,O,(),Sx]),6,88):=Sk
theorem zdz (l:List UInt8):bytes (S.Aw l)<=l.length:=by
 unfold S.Aw;split;·simp[bytes]
 have a:=BL (Lib.trimSuffix l [10]);have d:=Lib.trimSuffix_le l [10];omega
def M4 (t:S.Ac)(g:So)(ln h:Nat)(a:So)(f d:Nat):List Value:=[.int .i64 t.kind,.int .i64 t.line,.slice g ln h,.int .i64 t.n,.string (S.B t.info),.string (S.B t.text),.bool t.Ai,.slice a f d]
theorem zhp {s:Sb}{w j:Sw}{R:So}{T au:Nat}(ac:NZ s w j (.slice R T au)):T=(Gp s).length/\∀(l:Nat) (h:S.Ac),(Gp s)[l]?=some h->∃(k b d W:Nat) (q:List ByteArray) (m:So) (p o:Nat),R=some ⟨k,0,none⟩/\w.heap.size<=k/\k<j.heap.size/\Co j (λr=>w.heap.size<=r/\r<j) (.slice m p o) h.Ab/\(∀i u,(M4 h (some (b d)) q.length W m p o)[i]?=some u->j.cell? (k (l*8+i))=some u)/\Own h (dat q)/\Cx j b d q/\w.heap.size<=b/\b<j.heap.size/\q.length<=1000000:=by
 obtain⟨am,az,b,ab,f,E,a0,an,aj⟩:=ac;obtain⟨ai,ar⟩:=U5 am;refine⟨ai,λl h P=>?_⟩;obtain⟨k,a6,a3,a4,W,a2,H,F,N,v,x,aa,y,z,A,C,D⟩:=ar l h P;obtain⟨m,p,o,rfl⟩:=N.form;obtain⟨d,ax,a5,aw,aq,G,ap,t⟩:=aj l h (by rw[E];exact P);injection aq with e1 e2 e3
 rw[H]at e1;injection e1 with e1
 injection e1 with e4 e5
 subst e4 e5;rw[Nat.zero_add]at v x aa y z A C D t;have ak:f≠[]:=by intro e;subst e;simp at G
 obtain⟨af,ag,ao⟩:=an ak;obtain⟨g,Q⟩:=Qyy ((S.A8 (S.Ag s.size) ((dat f).drop d)).2);have a1:g<=f.length-d:=by
  cases hd:(dat f).drop d with
  |nil=>have:=congrArg List.length hd;rw[Qf,Cq]at this;simp at this;omega
  |cons r av=>
   have ay:=(S.Tk (S.Ag s.size) r av).2;have ae:=congrArg List.length hd;rw[Qf,Cq]at ae;rw[<-Q,hd];omega
 have L:((f.drop d).take g).length=g:=by rw[Ql,Qf];omega
 have al:dat ((f.drop d).take g)=((dat f).drop d).take g:=by simp[dat,List.map_take,List.map_drop]
 have ah:bytes (dat f)<=s.size:=by rw[E];have:=zdz s;rw[S.lda]at this;exact this
 have K:=zdv s.size d (dat f) (by rw[Cq];exact G) ah h ap;rw[Q]at K t;have M:=(ao.drop d).take g;rw[Nat.zero_add]at M;refine⟨k,b,d,ab-d,(f.drop d).take g,m,p,o,H,F.1,F.2,N,?_,by rw[al];exact K,M,af,ag,by rw[L];omega⟩;rw[L];intro i u a;match i,a with
 |0,a=>simp[M4]at a;subst a;exact v
 |1,a=>simp[M4]at a;subst a;exact x
 |2,a=>simp[M4]at a;subst a;exact t
 |3,a=>simp[M4]at a;subst a;exact y
 |4,a=>simp[M4]at a;subst a;exact z
 |5,a=>simp[M4]at a;subst a;exact A
 |6,a=>simp[M4]at a;subst a;exact C
 |7,a=>simp[M4]at a;subst a;exact D
 |n+8,a=>simp[M4]at a
theorem MZ {A:Nat->Prop}{k wr h u:Sw}{z:List S.Ac}{d:List Pm}{a:So}{l:Nat}{s:Obj}{m:Pm}{t:S.Ac}{g cap1:Nat}{o:Sw}(x:o=h.alloc s\/o=(h.alloc s).drew)
  (T:wr.ownsRow k 101 6 (.slice a d.length l) d.length (K7 d)) (D:Below k k wr)
  (H:∀(i:Nat) (m:Pm) (t:S.Ac),d[i]?=some m->z[i]?=some t->Md (λf=>A f/\(Value.slice a d.length l).ownBlock≠some f) wr m t)
  (E:Below wr wr h) (ab:z[d.length]?=some t) (W:Md (λf=>A f/\(Value.slice a d.length l).ownBlock≠some f) h m t)
  (R:u.ownsRow k 101 6 (.slice (some g) (d.length+1) cap1) (d.length+1) (K7 d++J8 m))
  (v:o.grownBy u (Value.slice a d.length l).ownBlock)
  (K:(Value.slice a d.length l).ownBlock=some g\/g=(h:Nat)+1):GV A k z (d.length+1) (some g) (d.length+1) cap1 u:=by
 have ah:=v.size;have p:=D.trans (E.mono D.size);have L:Below k k o:=by
  rcases x with rfl|rfl
  ·exact p.alloc p.size s
  exact(p.alloc p.size s).drew
 have ag:o.heap.size=(h:Nat)+1:=by rcases x with rfl|rfl<;>simp
 have aa:∀f,f<h.heap.size->o.heap[f]?=h.heap[f]?:=λf r=>by
  rcases x with rfl|rfl
  ·exact Sqj _ _ _ r
  exact Sqj _ _ _ r
 have F:Moves (λf=>A f/\(Value.slice a d.length l).ownBlock≠some f) (λf=>A f/\(Value.slice (some g) (d.length+1) cap1).ownBlock≠some f) h u:=by
  refine⟨Z,λf y r=>⟨⟨y.1,?_⟩,?_⟩⟩
  ·intro e;have G:g=f:=by simpa [Value.ownBlock]using e
   subst G;rcases K with C|C
   ·exact y.2 C
   omega
  exact(v.block f Z (λe=>y.2 e.symm)).trans (aa f r)
 refine⟨d++[m],Y,Y,by rw[zlt];exact R,?_,?_⟩;·exact Sqi L v (by have:=p.size;omega) (λac Q=>(T.lt ac Q).1)
 intro i ae af j q;by_cases M:i<d.length
 ·rw[Qbd M]at j;exact((H i ae af j q).move (.of E)).move F
 rw[Qu Z]at j;have N:i-d.length=0:=by have:=(Qb.1 j).1;simp at this;omega
 rw[N]at j;simp at j;subst j;have P:i=d.length:=Z;subst P;rw[ab]at q;injection q with q
 subst q;exact W.move F
def HV (a:Sw)(d:Nat)(cs:List Value)(f:Sw):Prop:=a.heap.size<=d/\Below a a f/\f.heap[d]?=some (.cells cs.toArray 101 (0,0))
theorem zdc {a d f:Sw}{cs:List Value}(g:Below a a d)(h:Below d d f):HV a f cs (f.alloc (.cells cs.toArray 101)):=by
 have j:=g.size;have k:=h.size;exact⟨Z,(g.trans (h.mono j)).alloc Z _,Ak _ _⟩
theorem ze4 {a d s:Sw}{h j k l m o:Value}(q:Below a a d)(x:d.heap.size=(a:Nat)+1)(g:∃f:List Value,f.length=6/\d.heap[a.heap.size]?=some (.cells f.toArray 101 (0,0)))(r:Below d d s):HV a a.heap.size [h,j,k,l,m,o] ((((((s.setCell a h).setCell (a 1) j).setCell (a 2) k).setCell (a 3) l).setCell (a 4) m).setCell (a 5) o):=by
 obtain⟨f,u,g⟩:=g;have t:=q.size;have v:=(r.block a Z).trans g;refine⟨Qc _,?_,?_⟩;·exact((((((q.trans (r.mono t)).setCell (p:=⟨a,0,none⟩) (Qc _) _).setCell (p:=⟨a,1,none⟩) (Qc _) _).setCell (p:=⟨a,2,none⟩) (Qc _) _).setCell (p:=⟨a,3,none⟩) (Qc _) _).setCell (p:=⟨a,4,none⟩) (Qc _) _).setCell (p:=⟨a,5,none⟩) (Qc _) _
 match f,u with
 |[c0,c1,c2,c3,c4,c5],_=>exact Aj (Aj (Aj (Aj (Aj (Aj v 0 h) 1 j) 2 k) 3 l) 4 m) 5 o
theorem TT (B b:Nat)(l:List UInt8)(s:Sb)(w:Sw)(f:Lib.IsBuilderF 104 5 B b (Lib.byteCells l) w)(j:l.length+s.size<=1000000000)(h:B<=w):Calls prog 60 #[.pointer (some b),s] w λe a=>e=.returned (.tuple #[s.size,.nilIface])/\Lib.IsBuilderF 104 5 B b (Lib.byteCells (l++s.data.toList)) a/\Below B w a:=by
 refine(Tryz.Vj B b (Lib.byteCells l) s w f (by rw[Lib.byteCells_length];omega) h).mono ?_;rintro e a⟨rfl,d,g,_⟩;rw[Lib.strCells_eq,<-Lib.byteCells_append]at d;exact⟨rfl,.inr d,g⟩
theorem za6 (a:List S.Ac)(d:∀b∈a,1<=b.kind/\b.kind<=6)(g:Nat)(t:S.Ac)(f:a[g]?=some t):1<=t.kind/\t.kind<=6:=d t (SN f)
theorem ET (a:List S.Ac)(d:Nat)(t:S.Ac)(g:a[d]?=some t):Eo t<=Bo a:=by
 have f:=Ls a (d+1);rw[Rw a d t g]at f;omega
theorem VK {t:S.Ac}(a:Lj t):Ee t.Ab:=by
 cases t;simp only[Lj]at a;exact a.2.2
theorem KX (A:Nat->Prop)(h:Nat)(ey s:Sb)(a:So)(al:Nat)(ps:List Pm)(w:Sw)(eb:s.size<=1500)(bu:w.heap[h]?=some (.cells #[ey,.slice a ps.length al] 94 (0,0)))(fw:ps.length<=1000000)(dn:O7 A w a ps)(d5:∀(i:Nat) (p:Pm),ps[i]?=some p->∃f,Md A w p f)(co:Cv h w)(ce:∀d,w.heap.size<=d->A d)(cg:¬A h):Calls prog 58 #[.pointer (some h),s] w λe w'=>e=.returned (.tuple #[])/\Gr h w w'/\Gq A h w' s:=by
 obtain⟨i0,dv,ek,el,em⟩:=info_parts Tryz.zfz;have bl:h<w:=(Qq.1 bu).1;have fg:=V (zee s w Z co.1);have br:=S.L8 s;rw[S.lda]at br;have bw:=Td (s.size+1) (S.Aw s) Z;have d0:=DI (s.size+1) (S.Aw s) Z;have fl:=Ym s eb;have dt:U (∀v wr,Below w w v->∀(x:So) (ak y:Nat),GV A v (Gp s) (Gp s).length x ak y wr->Gr h w ((wr.setCell h (.string s)).setCell (h 1) (.slice x ak y))/\Gq A h ((wr.setCell h (.string s)).setCell (h 1) (.slice x ak y)) s):=V (λv wr K x ak y hrel=>by
  obtain⟨m,rfl,a5,a2,af,a0⟩:=hrel;have a1:=K.trans (af.mono K.size);have hh:=K.size;have ft:Moves (λd=>A d/\(Value.slice x m.length y).ownBlock≠some d) A wr ((wr.setCell h (.string s)).setCell (h 1) (.slice x m.length y)):=
   ⟨by simp[World.setCell],λd j _=>have bg:d≠h:=λe=>cg (e▸j.1);⟨j.1,by rw[Below.heap_setCell _ _ _ _ bg,Below.heap_setCell _ _ _ _ bg]⟩⟩
  have j:=(a1.block h bl).trans bu;refine⟨⟨((a1.mono (Sm bl)).setCell (p:=⟨h,0,none⟩) (Qc _) _).setCell (p:=⟨h,1,none⟩) (Qc _) _,λd bf bg=>by rw[Below.heap_setCell _ _ _ _ bg,Below.heap_setCell _ _ _ _ bg];exact a1.block d bf⟩,eb,x,y,m,?_,a5,?_,?_⟩;·exact Aj (cs:=[.string s,.slice a ps.length al]) (Aj (cs:=[.string ey,.slice a ps.length al]) j 0 _) 1 _
  ·exact((zet a2 (A:=A) (λa8 g0=>ce a8 Z)).move (Moves.set h 0 cg wr _)).move (Moves.set h 1 cg _ _)
  intro i p f cu R;exact(a0 i p f cu R).move ft)
 have ec:=V bu;have ck:=V dn;have d6:=V d5;have fm:=V co;have eh:U (∀l f,(Gp s)[l]?=some f->Gl f/\Ee f.Ab/\(1<=f.kind/\f.kind<=6)/\Eo f<=100000000):=V (λl f R=>by
  refine⟨Rm _ bw.1 l f R,VK (BI _ d0 l f R),za6 _ bw.2.2 l f R,?_⟩;have az:=ET _ l f R;have am:=bw.2.1;unfold Gp at az;omega)
 clear bu dn d5 co bw d0 br;go_enter func58,ntmps58;go_wp2_with fail
 apply fg.m;rintro e v⟨hw,rfl,bd⟩;obtain⟨hk,hm,hl,rfl⟩:=bd.1.form;obtain⟨dx,c9⟩:=zhp bd;have cl:=V bd.2.1;have eg:w.heap.size<=v.heap.size:=bd.2.1.size;obtain⟨ah,ef⟩:=Qyy (Gp s);rw[ef]at dx c9 fl dt eh;have f8:=V c9;clear bd c9 ef;subst dx;go_wp2;go_loopw [4,5,7,8,9,13] (λgf gg _ _ _ i wr=>∃(l a6 ak:Nat) (x:So) (y:Nat),l<=ah.length/\a6<=ps.length/\i=.int .i64 l/\gf=.slice x ak y/\gg=.int .i64 a6/\U (GV A v ah l x ak y wr)) (λ_ _ _ _ _ i _=>ah.length-(intOf i).toNat)
 case atStart=>exact⟨0,0,0,none,0,Qt _,Qt _,rfl,rfl,rfl,V ⟨[],rfl,rfl,Sqg _ _ _ _,Sr,λi hp f fx=>by simp at fx⟩⟩
 case round=>
  obtain⟨l,a6,ak,x,y,dw,d4,rfl,rfl,rfl,bk⟩:=hrel;by_cases br:l<ah.length
  ·obtain⟨m,cr,a5,a2,af,a0⟩:=bk.q;clear bk;subst cr;obtain⟨f,R⟩:∃f,ah[l]?=some f:=⟨ah[l],Qg br⟩;obtain⟨a8,b,q,r,o,aq,ax,ar,rfl,g4,fo,ea,ds,d8,cy,gv,K,bt⟩:=f8.q l f R;obtain⟨du,d1,fr,fv⟩:=eh.q l f R;have f9:v.heap.size<=wr.heap.size:=af.size;have ai:∀i M,(M4 f (some (b q)) o.length r aq ax ar)[i]?=some M->wr.cell? (a8 (l*8+i))=some M:=λi M bv=>(af.cell (p:=⟨a8,l*8+i,none⟩) fo).trans (ds i M bv);obtain⟨b9,cj⟩:=Qzz (Obj.cells #[.int .i64 f.kind,.int .i64 f.line,.slice (some (b q)) o.length r,.int .i64 f.n,(S.B f.info),(S.B f.text),.bool f.Ai,.slice aq ax ar] 110);obtain⟨G,ba⟩:=Qzz (wr.alloc b9);have en:G.heap.size=wr.heap.size+1:=by rw[ba];simp
   have dp:Below wr.heap.size wr G:=by rw[ba];exact Sr.alloc (Qc _) _
   have bx:G.heap[wr.heap.size]?=some (.cells #[.int .i64 f.kind,.int .i64 f.line,.slice (some (b q)) o.length r,.int .i64 f.n,(S.B f.info),(S.B f.text),.bool f.Ai,.slice aq ax ar] 110 (0,0)):=by rw[ba,cj];exact Ak _ _
   have fj:wr.heap.size<G.heap.size:=Z;have ae:U (∀t,After G t->Below wr.heap.size wr t/\Below v.heap.size v t/\Below w w t/\t.heap[wr.heap.size]?=some (.cells #[.int .i64 f.kind,.int .i64 f.line,.slice (some (b q)) o.length r,.int .i64 f.n,(S.B f.info),(S.B f.text),.bool f.Ai,.slice aq ax ar] 110 (0,0))):=V (λt j=>by
    have az:=dp.trans (Below.mono j Z);have am:=af.trans (az.mono f9);exact⟨az,am,cl.q.trans (am.mono eg),(j.block _ fj).trans bx⟩)
   have ch:U (∀t,After G t->Calls prog 76 #[.slice (some (b q)) o.length r] t λe T=>∃d u,e=.returned (.agg #[.int .u64 d,.int .u64 u])/\(T.cell? ⟨wr.heap.size,2,none⟩=some (.slice (some (b q)) o.length r)/\T.cell? ⟨wr.heap.size,1,none⟩=some (.int .i64 f.line))/\wr.heap.size<T.heap.size/\G.heap.size<=T.heap.size/\t.heap.size<=T.heap.size/\U (Below t.heap.size t T)):=V (λt j=>by
    have am:=(ae.q t j).2.1;refine(zg6 b q r o t (Qh K am.size) (cy.below am K) bt).mono ?_;rintro e T⟨d,u,rfl,av⟩;have L:After G T:=Below.trans j (av.mono j.size);have bo:=(ae.q T L).2.2.2;have fc:=L.size;exact⟨d,u,rfl,⟨X bo 2 _ rfl,X bo 1 _ rfl⟩,Z,fc,av.size,V av⟩)
   have ez:=X bx 1 _ rfl;have gi:=X bx 2 _ rfl;have cb:=ai 0 _ rfl;have dc:=ai 1 _ rfl;have e1:=ai 2 _ rfl;have dd:=ai 3 _ rfl;have de:=ai 4 _ rfl;have df:=ai 5 _ rfl;have dg:=ai 6 _ rfl;have e2:=ai 7 _ rfl;rw[SL]at cb;have an:=V cj;have dk:=V ba;have bs:=V a2;have dr:=V af;have dm:=V a0;have f0:=V ea;have ct:=V d8;have cz:=V cy;have fn:=V du;have fs:=V d1;have f2:=V R;have cx:=V a5;have ga:=V en;clear cj ba a2 af a0 ea d8 cy du d1 ds ai bx dp R a5 en;obtain⟨b6,c2⟩:=Qyy (f.kind);obtain⟨D,c3⟩:=Qyy (f.line);obtain⟨b8,c5⟩:=Qyy (f.n);obtain⟨b5,c1⟩:=Qyy (S.B f.info);obtain⟨tt,c7⟩:=Qyy (S.B f.text);obtain⟨b7,c6⟩:=Qyy (f.Ai);rw[c2]at cb an ae;rw[c3]at dc an ae ch ez;rw[c5]at dd an ae;rw[c1]at de an ae;rw[c7]at df an ae;rw[c6]at dg an ae;have f4:=V c2;have c4:=V c3;have f5:=V c5;have f3:=V c1;have f7:=V c7;have f6:=V c6;clear c2 c3 c5 c1 c7 c6;go_upto_region 5 with fail
   rw[<-an.q,<-dk.q];go_cut [8] (λge t=>∃(g:Nat) (d u:Int),ge=.pointer (some g)/\U (HV G g [.slice (some (b q)) o.length r,.int .u64 d,.int .u64 u,.int .i64 D,.string ⟨#[]⟩,.slice none 0 0] t))
   case first=>
    have g7:¬G.heap.size=wr.heap.size:=Z;have g8:¬wr.heap.size=G.heap.size:=Z;go_region_held3 (λw'=>w'.cell? ⟨wr.heap.size,2,none⟩=some (.slice (some (b q)) o.length r)/\w'.cell? ⟨wr.heap.size,1,none⟩=some (.int .i64 D))
     ((refine⟨?_,?_⟩<;>(first|with_reducible assumption|go_keep)))
     ((go_at_call 76;refine(ch.q _ (by repeat (first|exact Sr|refine Below.drew ?_|refine Below.alloc ?_ Y _))).mono ?_;rintro e T⟨d,u,rfl,⟨hy,hx⟩,hj,gb,eo,av⟩;obtain⟨gx,gz⟩:=Na av.q;have g9:¬T.heap.size=wr.heap.size:=Z))
    all_goals (go_wp2_with fail;go_meet)
    ·exact⟨_,d,u,rfl,V (zdc (by repeat (first|exact Sr|refine Below.drew ?_|refine Below.alloc ?_ Y _)) av.q)⟩
    exact⟨_,d,u,rfl,V (ze4 (by repeat (first|exact Sr|refine Below.drew ?_|refine Below.alloc ?_ Y _)) Y ⟨[.slice none 0 0,.int .u64 0,.int .u64 0,.int .i64 0,.string ⟨#[]⟩,.slice none 0 0],rfl,(by exact Ak _ _)⟩ av.q)⟩
   case rest=>
   obtain⟨g,d,u,rfl,d2⟩:=hcut;clear cb dc e1 dd de df dg e2 ez gi ch an dk;obtain⟨hf,cm,ag⟩:=d2.q;have ao:=ae.q wc cm;have cw:g<wc:=(Qq.1 ag).1;have f1:h<wc:=Qh bl ao.2.2.1.size;have ed:=(ao.2.2.1.block h bl).trans ec.q;have bn:=X ed 1 _ rfl;have er:=X ag 0 _ rfl;have es:wc.cell? (g 1)=some (.int .u64 d):=X ag 1 _ rfl;have et:wc.cell? (g 2)=some (.int .u64 u):=X ag 2 _ rfl;have eu:wc.cell? (g 3)=some (.int .i64 D):=X ag 3 _ rfl;have ev:wc.cell? (g 4)=some (.string ⟨#[]⟩):=X ag 4 _ rfl;have ew:wc.cell? (g 5)=some (.slice none 0 0):=X ag 5 _ rfl;have dj:U (∀t,After wc t->Calls prog 77 #[.slice a ps.length al,a6,.agg #[.slice (some (b q)) o.length r,.int .u64 d,.int .u64 u,D,(),Sx]] t λe k=>∃a7:Int,e=.returned a7/\(k.cell? (h 1)=some (.slice a ps.length al)/\k.cell? g=some (.slice (some (b q)) o.length r)/\k.cell? (g 1)=some (.int .u64 d)/\k.cell? (g 2)=some (.int .u64 u)/\k.cell? (g 3)=some (.int .i64 D)/\k.cell? (g 4)=some (.string ⟨#[]⟩)/\k.cell? (g 5)=some (.slice none 0 0))/\U (After wc k/\(a7 = -1\/∃(H:Nat) (p:Pm),a7=H/\ps[H]?=some p/\p.ss=o))):=V (λt j=>by
    have ei:Below w w t:=ao.2.2.1.trans (Below.mono j ao.2.2.1.size);have ej:Below v.heap.size v t:=ao.2.1.trans (Below.mono j ao.2.1.size);have az:=ZB ps a al a6 ⟨b,q,r,o,d,u,D,⟨#[]⟩,.slice none 0 0⟩ t ((ck.q.move (.of ei)).row (λi p cu=>by obtain⟨ex,au⟩:=d6.q i p cu;exact⟨ex,au.move (.of ei)⟩)) (cz.q.below ej K) (Qh K ej.size) bt fw d4;refine az.mono ?_;rintro e k⟨a7,rfl,fk,bj⟩;have L:After wc k:=Below.trans j (fk.mono j.size);have a3:=(L.block g cw).trans ag;exact⟨a7,rfl,⟨(L.cell (p:=⟨h,1,none⟩) f1).trans bn,X a3 0 _ rfl,X a3 1 _ rfl,X a3 2 _ rfl,X a3 3 _ rfl,X a3 4 _ rfl,X a3 5 _ rfl⟩,V ⟨L,bj⟩⟩)
   have gw:=V ao;have dq:=V cm;have fu:=V ag;clear ao ed d2 cm ag;go_wp2_with (fail);go_region_held3 (λw'=>w'.cell? (h 1)=some (.slice a ps.length al)/\w'.cell? g=some (.slice (some (b q)) o.length r)/\w'.cell? (g 1)=some (.int .u64 d)/\w'.cell? (g 2)=some (.int .u64 u)/\w'.cell? (g 3)=some (.int .i64 D)/\w'.cell? (g 4)=some (.string ⟨#[]⟩)/\w'.cell? (g 5)=some (.slice none 0 0))
    (first|exact⟨bn,er,es,et,eu,ev,ew⟩|exact⟨e0,bz,b0,b1,b2,b3,b4⟩)
    ((go_at_call 77;refine(dj.q _ (by repeat (first|exact Sr|refine Below.drew ?_))).mono ?_;rintro e k⟨a7,rfl,⟨e0,bz,b0,b1,b2,b3,b4⟩,bj⟩))
   clear bn er es et eu ev ew dj;have L:After wc k:=bj.q.1;have cf:After G k:=Below.trans dq.q (Below.mono L dq.q.size);have ac:=V (ae.q k cf);have a4:=(L.block g cw).trans fu.q;have hg:g<k:=Qh cw L.size;have gb:v.heap.size<=k.heap.size:=ac.q.2.1.size;have gy:m.length+1<=1000000:=by have:=cx.q;omega
   have hi:wr.heap.size<g:=by have:=ga.q;omega
   -- what is appended
   have dh:U (∀F da,Below wr.heap.size wr F->(F.alloc da).ownsRow v.heap.size 101 6 (.slice x m.length y) m.length (K7 m)):=V (λF da bo=>(bs.q.kept (Below.Ll bo) (by
    cases au:(Value.slice x m.length y).ownBlock with
    |none=>exact .inl rfl
    |some a8=>exact .inr Y)).alloc da)
   have d3:U (∀(F:Sw) (z:Sb) (db:Value) l M,([.slice (some (b q)) o.length r,.int .u64 d,.int .u64 u,D,z,db]:List Value)[l]?=some M->(F.alloc (.cells #[.slice (some (b q)) o.length r,.int .u64 d,.int .u64 u,D,z,db] 101)).cell? ((⟨F.heap.size,0,none⟩:Addr).add l)=some M):=V (λF z db l M dw=>World.news_of_block (Ak _ _) l M (by exact dw));have d7:U (∀(z:Sb) (aa:So) (ay ab:Nat),∀M∈([.slice (some (b q)) o.length r,.int .u64 d,.int .u64 u,D,z,.slice aa ay ab]:List Value),M.oneCell'=true):=V (by
    intro z aa ay ab M bv;simp at bv;rcases bv with rfl|rfl|rfl|rfl|rfl|rfl<;>rfl)
   have ee:U (ah[m.length]?=some f):=V (by rw[cx.q];exact f2.q);have bq:U (m.length+1=l+1):=V (by rw[cx.q])
   have cp:U (∀C,v.heap.size<=C\/True->(A C/\(wr.heap.size<=C\/C<v.heap.size))->A C/\(Value.slice x m.length y).ownBlock≠some C):=V (λC _ au=>⟨au.1,λe=>by
    have:=bs.q.lt C e;rcases au.2 with am|am<;>omega⟩)
   have dy:U (A b/\(Value.slice x m.length y).ownBlock≠some b):=V (cp.q b (.inr trivial) ⟨ce b Z,.inr K⟩);obtain fy:=bj.q.2;clear bj;rcases fy with rfl|⟨H,p,rfl,bi,d9⟩
   ·have dl:U (Calls prog 78 #[.pointer (some g),.agg #[b6,D,.slice (some (b q)) o.length r,b8,b5,tt,b7,.slice aq ax ar]] k λe F=>∃(z:Sb) (aa:So) (ay ab:Nat),e=.returned (.tuple #[])/\F.heap[g]?=some (.cells #[.slice (some (b q)) o.length r,.int .u64 d,.int .u64 u,D,z,.slice aa ay ab] 101 (0,0))/\U (Below wr.heap.size wr F/\Md (λd=>A d/\(Value.slice x m.length y).ownBlock≠some d) F ⟨b,q,r,o,d,u,D,z,.slice aa ay ab⟩ f)):=V (by
     have fz:Co k (λd=>w.heap.size<=d/\d<v.heap.size) (.slice aq ax ar) f.Ab:=f0.q.move (λd j=>j) (λd j=>ac.q.2.1.block d j.2);have fe:Cv g k:=(fm.q.below (ac.q.2.2.1.mono Z)).mono Z;have:=zl0 g _ _ _ _ _ _ f (some (b q)) o.length r aq ax ar (λd=>w.heap.size<=d/\d<v.heap.size) k a4 (λd j=>Z) fz fe fn.q fs.q fr fv;rw[f4.q,c4.q,f5.q,f3.q,f7.q,f6.q]at this;refine this.mono ?_;rintro e F⟨rfl,aw,aa,ab,gj,gs,E,fh⟩;have cd:Below wr.heap.size wr F:=ac.q.1.trans (aw.mono Z);have a9:=ac.q.2.1.trans (aw.mono Z);refine⟨_,aa,_,ab,rfl,E,V ⟨cd,ct.q,c4.q.symm,rfl,⟨aa,ab,rfl,fh.row (λC g1=>cp.q C (.inr trivial) ⟨ce C Z,.inl Z⟩)⟩,dy.q,Qh K a9.size,cz.q.below a9 K,bt⟩⟩)
    have aj:=ac.q.2.2.2;have e3:k.cell? ⟨wr.heap.size,0,none⟩=some (.int .i64 b6):=X aj 0 _ rfl;have e4:=X aj 1 _ rfl;have e5:=X aj 2 _ rfl;have e6:k.cell? ⟨wr.heap.size,3,none⟩=some (.int .i64 b8):=X aj 3 _ rfl;have e7:k.cell? ⟨wr.heap.size,4,none⟩=some (.string b5):=X aj 4 _ rfl;have e8:k.cell? ⟨wr.heap.size,5,none⟩=some (.string tt):=X aj 5 _ rfl;have e9:k.cell? ⟨wr.heap.size,6,none⟩=some (.bool b7):=X aj 6 _ rfl;have fa:=X aj 7 _ rfl;clear aj a4 L cf e0 bz b0 b1 b2 b3 b4;go_wp2_with (fail);apply dl.m;rintro e F⟨z,aa,ay,ab,rfl,E,Q⟩;have bz:=X E 0 _ rfl;have b0:=X E 1 _ rfl;have b1:=X E 2 _ rfl;have b2:=X E 3 _ rfl;have b3:=X E 4 _ rfl;have b4:=X E 5 _ rfl;have eo:v.heap.size<=F.heap.size:=(by have:=Q.q.1.size;omega);clear E dl e3 e4 e5 e6 e7 e8 e9 fa;go_wp2_with (at_builtin;refine wpList_append_lies _ I _ _ 92 I v.heap.size 101 i0 (.agg #[Sx,.int .u64 0,.int .u64 0,O,(),Sx]) 6 88 underlying92 dv ek el em I Z (.slice x m.length y) m.length (K7 m) I (dh.q _ _ Q.q.1) ⟨F.heap.size,0,none⟩ 1 1 [.slice (some (b q)) o.length r,.int .u64 d,.int .u64 u,.int .i64 D,.string z,.slice aa ay ab] I I (d3.q _ _ _) (d7.q _ _ _ _) Z (by unfold maxLen;omega) Z (by simp;omega) (F.heap.size+1) Y ?_)
    intro cc ca gh bh bc bb cq;have bm:=V (MZ (.inl rfl) bs.q dr.q dm.q Q.q.1 ee.q Q.q.2 bh bc bb);rw[bq.q]at bm;clear bh bc bb cq Q bz b0 b1 b2 b3 b4;go_wp2_with (fail);go_roundw
    case rel=>exact⟨l+1,a6,m.length+1,some cc,ca,Z,d4,by go_num,rfl,rfl,by rw[bq.q];exact bm⟩
    case measure=>exact Sj
   have g6:H<ps.length:=(Qb.1 bi).1;have fd:=(ck.q.move (.of ac.q.2.2.1)) H p bi;obtain⟨C,fp,g2,g3,cn⟩:=fd;subst fp;obtain⟨ex,ci⟩:=d6.q H p bi;obtain⟨N,ap,P,c8⟩:∃N ap P,p.tv=.slice N ap P:=by obtain⟨_,_,_,⟨N,P,au,_⟩,_⟩:=ci;exact⟨N,_,P,au⟩
   obtain⟨z,cv⟩:=Qyy (p.page);have g5:C<w:=by
    obtain⟨gr,e,_,bf,_⟩:=ck.q H p bi;injection e with e;injection e with e;omega
   have hz:k.cell? ⟨C,H*6+4,none⟩=some (.string z):=by rw[<-cv];exact cn 4 _ rfl
   have h0:k.cell? ⟨C,H*6+5,none⟩=some (.slice N ap P):=by rw[<-c8];exact cn 5 _ rfl
   have gt:(0:Int)<=(H:Int):=Z;have gu:(H:Int)<(ps.length:Int):=Z;have ha:¬C=g:=Z;have hb:¬g=C:=Z;have hc:¬h=g:=Z;have he:¬g=h:=Z;have gp:k.frozen? (g 4)=false:=Av a4 4;have gq:k.frozen? (g 5)=false:=Av a4 5;obtain⟨W,bp⟩:=Qzz ((k.setCell (g 4) (.string z)).setCell (g 5) (.slice N ap P));have E:W.heap[g]?=some (.cells #[.slice (some (b q)) o.length r,.int .u64 d,.int .u64 u,D,z,.slice N ap P] 101 (0,0)):=by
    rw[bp];exact Aj (Aj a4 4 _) 5 _
   have aw:Below g k W:=by rw[bp];exact(Sr.setCell (p:=⟨g,4,none⟩) (Qc _) _).setCell (p:=⟨g,5,none⟩) (Qc _) _
   have Q:U (Below wr.heap.size wr W/\Md (λd=>A d/\(Value.slice x m.length y).ownBlock≠some d) W ⟨b,q,r,o,d,u,D,z,.slice N ap P⟩ f):=V (by
    have cd:Below wr.heap.size wr W:=ac.q.1.trans (aw.mono Z);have a9:=ac.q.2.1.trans (aw.mono Z);have fb:=ac.q.2.2.1.trans (aw.mono Z);obtain⟨ep,hn,gc,⟨gk,gm,eq,gd⟩,ho⟩:=ci;rw[d9]at ep;have c0:=zmv ct.q ep;rw[c8]at eq;injection eq with o7 o8 o9
    subst o7 o8 o9;refine⟨cd,ct.q,c4.q.symm,?_,⟨N,P,?_,?_⟩,dy.q,Qh K a9.size,cz.q.below a9 K,bt⟩
    ·show z=_;rw[<-cv,gc,zma c0]
    ·rw[c0]
    rw[c0];have:=gd.move (A':=λd=>A d/\d<w) (w':=w) ⟨Qc _,λd j bf=>⟨⟨j,bf⟩,rfl⟩⟩;exact(this.move (A':=λd=>A d/\(Value.slice x m.length y).ownBlock≠some d) (w':=w) ⟨Qc _,λd j bf=>⟨cp.q d (.inr trivial) ⟨j.1,.inr Z⟩,rfl⟩⟩).move (.of fb))
   have hq:=X E 0 _ rfl;have hr:=X E 1 _ rfl;have hs:=X E 2 _ rfl;have ht:=X E 3 _ rfl;have hu:=X E 4 _ rfl;have hv:=X E 5 _ rfl;have eo:v.heap.size<=W.heap.size:=by have:=Q.q.1.size;omega
   have fi:=V bp;clear E aw bp cn ci c8 cv bi d9 a4 L cf;go_upto_region 9 with fail
   go_region_held3 (λw'=>w'.cell? (h 1)=some (.slice (some ⟨C,0,none⟩) ps.length al)/\w'.cell? ⟨C,H*6+4,none⟩=some (.string z)/\w'.cell? ⟨C,H*6+5,none⟩=some (.slice N ap P))
    ((refine⟨?_,?_,?_⟩<;>(first|with_reducible assumption|go_keep)))
    (fail)
   rw[<-fi.q];go_wp2_with (at_builtin;refine wpList_append_lies _ I _ _ 92 I v.heap.size 101 i0 (.agg #[Sx,.int .u64 0,.int .u64 0,O,(),Sx]) 6 88 underlying92 dv ek el em I Z (.slice x m.length y) m.length (K7 m) I (dh.q _ _ Q.q.1) W 1 1 [.slice (some (b q)) o.length r,.int .u64 d,.int .u64 u,.int .i64 D,.string z,.slice N ap P] I I (d3.q _ _ _) (d7.q _ _ _ _) Z (by unfold maxLen;omega) Z (by simp;omega) ((W:Nat)+1) Y ?_)
   intro cc ca gh bh bc bb cq;have bm:=V (MZ (.inr rfl) bs.q dr.q dm.q Q.q.1 ee.q Q.q.2 bh bc bb);rw[bq.q]at bm;clear bh bc bb cq Q;go_wp2_with (fail);go_roundw
   case rel=>exact⟨l+1,H+1,m.length+1,some cc,ca,Z,Z,by go_num,rfl,by go_num,by rw[bq.q];exact bm⟩
   case measure=>exact Sj
  have fq:l=ah.length:=Z;subst fq;have di:=V (dt.q v wr cl.q x ak y bk.q);obtain⟨m,cr,a5,a2,af,a0⟩:=bk.q;have a1:=cl.q.trans (af.mono eg);have j:=(a1.block h bl).trans ec.q;have gn:wr.frozen? h=false:=Av j 0;have go:wr.frozen? (h 1)=false:=Av j 1;have gl:=X j 0 _ rfl;have bn:=X j 1 _ rfl;clear bk a2 af a0 a1 j cr a5;go_wp2;go_end0;exact⟨rfl,di.q.1,di.q.2⟩
theorem zjh {A:Nat->Prop}(a:Nat)(s:Sb)(w:Sw)(f:Gq A a w s):Calls prog 41 #[.pointer (some a)] w λe g=>e=.returned s/\g=w:=by
 obtain⟨_,h,k,l,d,_⟩:=f;have j:=X d 0 _ rfl;clear d;go_enter func41,ntmps41;go_wp2;go_ret;exact⟨rfl,rfl⟩
theorem zkz (s:Sb):M8 s=Cy Bg false (Gp s):=by
 unfold M8 Gp;rw[S.lda]
theorem zgz (s:Sb):Ih s=Bf 0 (Gp s):=by
 unfold Ih Gp;rw[S.lda]
theorem JL (s:Sb)(g:s.size<=1500):C9 (Gp s)/\Bo (Gp s)<=1300000/\Ee (Gp s):=by
 have f:=S.L8 s;rw[S.lda]at f;have a:=Td (s.size+1) (S.Aw s) Z;have d:=DI (s.size+1) (S.Aw s) Z;refine⟨a.1,?_,d⟩;have:=a.2.1;unfold Gp;omega
theorem zhg {A:Nat->Prop}(t:Nat)(s:Sb)(w:Sw)(ab:Gq A t w s):Calls prog 42 #[.pointer (some t)] w λe k=>e=.returned (.string (S.B (M8 s)))/\Below w w k:=by
 have bc:=ab.lt;obtain⟨ak,N,R,g,ac,ag,ae,L⟩:=ab;obtain⟨K,bb,_⟩:=JL s ak;have a2:=Ym s ak;rw[zkz];obtain⟨d,al⟩:=Qyy (Gp s);rw[al]at ag L K bb a2 ⊢;clear al;have Q:w.cell? (t 1)=some (.slice N g.length R):=X ac 1 _ rfl;have a1:=V ae;have ba:=V L;have af:=V K;obtain⟨m,u⟩:=Qzz (w.alloc (.cells #[.pointer none,Sx] 104));have H:=Vm w;rw[<-u]at H;have E:Below w w m:=by rw[u];exact Sr.alloc (Qc _) _
 have bi:m.cell? (t 1)=some (.slice N g.length R):=(E.cell (p:=⟨t,1,none⟩) bc).trans Q;have bd:U (Lib.IsBuilderF 104 5 w.heap.size w (Lib.byteCells (Cy Bg false (d.take 0))) m/\Below w w m):=V ⟨H,E⟩;have ay:=V u;have a8:=V ag;clear ac ae L K H u E Q;go_enter func42,ntmps42;go_upto_region 2 with fail
 rw[<-ay.q];go_wp2;go_loopw [5,11] (λ_ i wr=>∃a:Nat,a<=g.length/\i=.int .i64 a/\U (Lib.IsBuilderF 104 5 w.heap.size w (Lib.byteCells (Cy Bg false (d.take a))) wr/\Below w w wr)) (λ_ i _=>g.length-(intOf i).toNat)
 case atStart=>exact⟨0,Qt _,rfl,bd⟩
 case round=>
  obtain⟨a,bq,rfl,x⟩:=hrel;by_cases a9:a<g.length
  ·obtain⟨p,ai⟩:∃p,g[a]?=some p:=⟨g[a],Qg a9⟩;obtain⟨f,r⟩:∃f,d[a]?=some f:=⟨d[a]'Z,Qg Z⟩;obtain⟨_,_,aj,⟨P,T,am,_⟩,_⟩:=ba.q a p f ai r;obtain⟨W,a3,_,a4,G⟩:=a1.q a p ai;obtain⟨ao,aq,ap,ar,au,av,an,bu,bv⟩:=p;simp only[J8]at G am aj;subst am aj;subst a3;obtain⟨q,l⟩:=x.q;have h:∀i y,([.slice (some (ao aq)) ar.length ap,.int .u64 au,.int .u64 av,an,(S.B (Gs Bg false f)),.slice P (Er 0 (f.put 0)).length T]:List Value)[i]?=some y->wr.cell? (W (a*6+i))=some y:=λi y bf=>(l.cell (p:=⟨W,a*6+i,none⟩) a4).trans (G i y bf);obtain⟨j,v⟩:=Qyy (S.B (Gs Bg false f));obtain⟨M,ah⟩:=Qyy ((Er 0 (f.put 0)).length);rw[v,ah]at h;have aw:=h 0 _ rfl;have bj:=h 1 _ rfl;have bk:=h 2 _ rfl;have bl:=h 3 _ rfl;have bm:=h 4 _ rfl;have bn:=h 5 _ rfl;rw[SL]at aw;have bo:(0:Int)<=(a:Int):=Z;have bp:(a:Int)<(g.length:Int):=Z;obtain⟨o,D⟩:=Qzz (Obj.cells #[.slice (some (ao aq)) ar.length ap,.int .u64 au,.int .u64 av,an,j,.slice P M T] 101);have F:Below wr wr (wr.alloc o):=Sr.alloc (Qc _) _;have a6:=O1 false (d.take a) (Uy d af.q a);have br:=Ls d a;have a7:=OG false f (Rm d af.q a f r);have bs:=ET d a f r;have bt:j.size<=1300000:=by rw[<-v,S.Bc];omega
   have az:U (Calls prog 60 #[.pointer (some w),j] (wr.alloc o) λe k=>e=.returned (.tuple #[j.size,.nilIface])/\U (Lib.IsBuilderF 104 5 w.heap.size w (Lib.byteCells (Cy Bg false (d.take (a+1)))) k/\Below w w k)):=V (by
    have bg:=l.size;refine(TT w w _ j (wr.alloc o) (Tv q F) Z (by simp;omega)).mono ?_;rintro e k⟨rfl,aa,z⟩;refine⟨rfl,V ⟨?_,(l.trans (F.mono bg)).trans z⟩⟩;rw[XF false d a f r];rw[<-v,S.Bq]at aa;exact aa)
   have a0:=V D;have bw:(wr.alloc o).cell? (wr 4)=some (.string j):=by rw[D];exact X (Ak _ _) 4 _ rfl
   clear D F q l h G x v ah r a6 a7;go_upto_region 5 with fail
   rw[<-a0.q];go_wp2_with (fail);apply az.m;rintro e bh⟨rfl,C⟩;go_wp2;go_roundw
   case rel=>exact⟨a+1,Z,by go_num,C⟩
   case measure=>exact Sj
  have a5:a=g.length:=Z;subst a5;have ax:U (Calls prog 61 #[.pointer (some w)] wr λe k=>e=.returned (.string (S.B (Cy Bg false d)))/\U (Below w w k)):=V (by
   obtain⟨q,l⟩:=x.q;rw[a8.q,Qbl]at q;refine(Tryz.Tz w w _ wr q l.size).mono ?_;rintro e k⟨rfl,_,z,_⟩;exact⟨rfl,V (l.trans z)⟩)
  clear x;go_wp2_with fail
  apply ax.m;rintro e bh⟨rfl,C⟩;go_wp2;go_ret;exact⟨rfl,C.q⟩
mutual
theorem PO:∀(b:S.Ac) (d:Int),Lj b->∀f∈Er d b,d<=f.line/\f.line<=d+300000*(Eo b:Int)
 |.at_ k m n i p o Ab=>by
  intro d g f a;simp only[Lj]at g;have j:=PE Ab (d+k) g.2.2;simp only[Er,Qbh]at a;simp only[Eo];rcases a with a|a
  ·split at a
   ·simp at a;subst a;dsimp only;omega
   simp at a
  have:=j f a;omega
theorem PE:∀(h:List S.Ac) (d:Int),Ee h->∀f∈Bf d h,d<=f.line/\f.line<=d+300000*(Bo h:Int)
 |[]=>by intro d _ f a;simp[Bf]at a
 |b::l=>by
  intro d g f a;simp only[Ee]at g;simp only[Bf,Qbh]at a;simp only[Bo];rcases a with a|a
  ·have:=PO b d g.1 f a;omega
  have:=PE l d g.2 f a;omega
end
theorem YN {t:S.Ac}(a:Lj t):0<=t.line/\t.line<=300000:=by
 cases t;simp only[Lj]at a;exact⟨a.1,a.2.1⟩
theorem zkt {A:Nat->Prop}(bf:Nat)(s:Sb)(w:Sw)(ag:Gq A bf w s):Calls prog 40 #[.pointer (some bf)] w λe cd=>∃ap aq,e=.returned (.slice ap (Ih s).length aq)/\Bw w ap aq (Ih s) cd/\Below w w cd:=by
 obtain⟨i0,ct,cu,cv,cw⟩:=info_parts Tryz.Wp;have d5:=ag.lt;obtain⟨b7,ap,aq,G,o,bu,bn,ba⟩:=ag;obtain⟨bq,c8,a8⟩:=JL s b7;have cn:=Ym s b7;rw[zgz];obtain⟨h,ca⟩:=Qyy (Gp s);rw[ca]at bu ba bq c8 cn a8 ⊢;clear ca;have d1:=Y6 h 0;have dp:w.cell? (bf 1)=some (.slice ap G.length aq):=X o 1 _ rfl;have cl:=V bn;have c6:=V ba;have c2:=V a8;have c0:=V bu;clear o bn ba bq a8;go_enter func40,ntmps40;go_wp2;go_loopw [3,5,7,13] (λbg _ _ i wr=>∃(a r:Nat) (z:So) (C:Nat),a<=G.length/\i=.int .i64 a/\bg=.slice z r C/\U (r=(Bf 0 (h.take a)).length/\Bw w z C (Bf 0 (h.take a)) wr/\Below w w wr)) (λ_ _ _ i _=>G.length-(intOf i).toNat)
 case atStart=>exact⟨0,0,none,0,Qt _,rfl,rfl,V ⟨by simp[Bf],by rw[show Bf 0 (h.take 0)=[] by simp[Bf]];exact Sqg _ _ _ _,Sr⟩⟩
 case round=>
  obtain⟨a,r,z,C,bt,rfl,rfl,az⟩:=hrel;obtain⟨g,de⟩:=Qzz (wr);subst de;by_cases c3:a<G.length
  ·obtain⟨p,b6⟩:∃p,G[a]?=some p:=⟨G[a],Qg c3⟩;obtain⟨q,an⟩:∃q,h[a]?=some q:=⟨h[a]'Z,Qg Z⟩;obtain⟨_,bv,_,⟨af,M,cb,bb⟩,_⟩:=c6.q a p q b6 an;obtain⟨bj,cq,_,cr,ak⟩:=cl.q a p b6;obtain⟨Q,T,R,aa,ab,ac,d8,W,d9⟩:=p;simp only[J8]at ak cb bv;subst cb bv;subst cq;obtain⟨bz,ay,av⟩:=az.q;have a9:=BI h c2.q a q an;have c1:=YN a9;have au:=PO (q.put 0) 0 (EP 0 q Z Z (VK a9));rw[Yl]at au;have d3:=ET h a q an;have N:Bf 0 (h.take (a+1))=Bf 0 (h.take a)++(Er 0 (q.put 0)).map (Tl.shift q.line):=by rw[KF 0 h a q an,zk9]
   have b9:120*(Bf 0 (h.take (a+1))).length<=1300000:=by
    have o:=Y6 (h.take (a+1)) 0;have D:=Ls h (a+1);omega
   obtain⟨d,bm⟩:=Qyy (Er 0 (q.put 0));obtain⟨k,bk⟩:=Qyy (Bf 0 (h.take a));obtain⟨f,b8⟩:=Qyy (q.line);rw[bm]at au N bb ak;rw[bk]at N bz ay;rw[b8]at N ak c1;rw[N,Qa,List.length_map]at b9;subst bz;have L:∀i j,([.slice (some (Q T)) aa.length R,.int .u64 ab,.int .u64 ac,f,W,.slice af d.length M]:List Value)[i]?=some j->g.cell? (bj (a*6+i))=some j:=λi j P=>(av.cell (p:=⟨bj,a*6+i,none⟩) cr).trans (ak i j P);have ce:=L 0 _ rfl;have dq:=L 1 _ rfl;have dr:=L 2 _ rfl;have ds:=L 3 _ rfl;have dt:=L 4 _ rfl;have du:=L 5 _ rfl;rw[SL]at ce;have dv:(0:Int)<=(a:Int):=Z;have dw:(a:Int)<(G.length:Int):=Z;obtain⟨y,a6⟩:=Qzz (Obj.cells #[.slice (some (Q T)) aa.length R,.int .u64 ab,.int .u64 ac,f,W,.slice af d.length M] 101);have bp:Below g g (g.alloc y):=Sr.alloc (Qc _) _;have bc:(g.alloc y).heap[g.heap.size]?=some (.cells #[.slice (some (Q T)) aa.length R,.int .u64 ab,.int .u64 ac,f,W,.slice af d.length M] 101 (0,0)):=by rw[a6];exact Ak _ _
   have ea:=X bc 5 _ rfl;have df:w<=g.heap.size:=av.size;have dc:U (k.length=(k++(d.take 0).map (Tl.shift f)).length/\Bw w z C (k++(d.take 0).map (Tl.shift f)) (g.alloc y)/\Below w w (g.alloc y)/\(Value.slice z k.length C).ownBlock≠some g.heap.size/\(g.alloc y).heap[g.heap.size]?=some (.cells #[.slice (some (Q T)) aa.length R,.int .u64 ab,.int .u64 ac,f,W,.slice af d.length M] 101 (0,0))):=V ⟨Y,by simpa using ay.alloc y,av.trans (bp.mono df),λe=>by have:=ay.lt _ e;omega,bc⟩;have ck:=V a6;have db:=V N;have cm:=V au;have dd:=V bb;have bs:U (k.length+d.length<=20000):=V Z;clear a6 bp ay av L ak az an bm bk b8 N au bb bc b9 a9;go_upto_region 5 with fail
   rw[<-ck.q];go_wp2;go_loopw [3,7,20] (λbg _ bd bh=>∃(i r:Nat) (t:So) (u:Nat),i<=d.length/\bd=.int .i64 i/\bg=.slice t r u/\U (r=(k++(d.take i).map (Tl.shift f)).length/\Bw w t u (k++(d.take i).map (Tl.shift f)) bh/\Below w w bh/\(Value.slice t r u).ownBlock≠some g.heap.size/\bh.heap[g.heap.size]?=some (.cells #[.slice (some (Q T)) aa.length R,.int .u64 ab,.int .u64 ac,f,W,.slice af d.length M] 101 (0,0)))) (λ_ _ bd _=>d.length-(intOf bd).toNat)
   case atStart=>exact⟨0,k.length,z,C,Qt _,rfl,rfl,dc⟩
   case round=>
    obtain⟨i,r,t,u,d2,rfl,rfl,a0⟩:=hrel;by_cases bw:i<d.length
    ·obtain⟨b0,al,aj,ax,ao⟩:=a0.q;obtain⟨ae,a1⟩:∃ae,d[i]?=some ae:=⟨d[i],Qg bw⟩;obtain⟨a4,cp,_,cs,a7⟩:=dd.q i ae a1;subst cp;have cc:=cm.q ae (SN a1);have am:k++(d.take (i+1)).map (Tl.shift f)=(k++(d.take i).map (Tl.shift f))++[Tl.shift f ae]:=(by rw[Sv,a1];simp);have cg:(k++(d.take i).map (Tl.shift f)).length+1<=1000000:=by
      have:=bs.q;rw[Qa,List.length_map,Ql];omega
     obtain⟨l,bl⟩:=Qyy (k++(d.take i).map (Tl.shift f));rw[bl]at b0 al am cg;subst b0;obtain⟨E,lt,x⟩:=ae;simp only[Cc]at a7;simp only at cc;have aw:∀a j,([E,(S.B lt),x]:List Value)[a]?=some j->wr.cell? (a4 (i*3+a))=some j:=λa j P=>(aj.cell (p:=⟨a4,i*3+a,none⟩) cs).trans (a7 a j P);have bi:=aw 0 _ rfl;have cf:=aw 1 _ rfl;have a3:=aw 2 _ rfl;rw[SL]at bi;have dk:=X ao 3 _ rfl;have c9:g<wr.heap.size:=(Qq.1 ao).1;have d6:IntKind.i64.wrap (x+f)=x+f:=(by rw[Sqe];omega);have d0:d.length<=20000:=(by have:=bs.q;omega);have dx:(0:Int)<=(i:Int):=Z;have dy:(i:Int)<(d.length:Int):=Z;have c7:=V al;have co:=V aj;have c5:=V ax;have di:=V ao;have da:=V am;obtain⟨m,ai⟩:=Qzz (wr.alloc (.cells #[E,(S.B lt),(x+f:Int)] 71));have ar:Below wr wr m:=(by rw[ai];exact Sr.alloc (Qc _) _);have a2:m.heap[wr.heap.size]?=some (.cells #[E,(S.B lt),(x+f:Int)] 71 (0,0)):=(by rw[ai];exact Ak _ _);have d7:wr<m.heap.size:=(by rw[ai];simp);have dl:=X a2 0 _ rfl;have dm:=X a2 1 _ rfl;have dn:=X a2 2 _ rfl;have dg:w<=wr.heap.size:=aj.size;have dh:w<=m.heap.size:=Z;have b5:U (∀F,(m.alloc F).ownsRow w 71 3 (.slice t l.length u) l.length (Cb l)):=V (λF=>(al.below ar).alloc F);have b1:U (∀a j,([E,(S.B lt),(x+f:Int)]:List Value)[a]?=some j->(m.alloc (.cells #[E,(S.B lt),(x+f:Int)] 71)).cell? ((m:Addr).add a)=some j):=V (λa j bt=>World.news_of_block (Ak _ _) a j (by exact bt));have b3:U (∀j∈([E,(S.B lt),(x+f:Int)]:List Value),j.oneCell'=true):=V (by
      intro j P;simp at P;rcases P with rfl|rfl|rfl<;>rfl)
     have b2:U (∀F H v K,(m.alloc F).grownBy H (Value.slice t l.length u).ownBlock->H.ownsRow w 71 3 (.slice (some ⟨v,0,none⟩) (l.length+1) K) (l.length+1) (Cb l++[.int .i64 E,.string (S.B lt),.int .i64 (x+f)])->((Value.slice t l.length u).ownBlock=some v\/v=(m:Nat)+1) ->
       (l.length+1=(k++(d.take (i+1)).map (Tl.shift f)).length/\Bw w (some ⟨v,0,none⟩) K (k++(d.take (i+1)).map (Tl.shift f)) H/\Below w w H/\(Value.slice (some ⟨v,0,none⟩) (l.length+1) K).ownBlock≠some g.heap.size/\H.heap[g.heap.size]?=some (.cells #[.slice (some (Q T)) aa.length R,.int .u64 ab,.int .u64 ac,f,W,.slice (some a4) d.length M] 101 (0,0)))):=V (λF H v K o D ah=>by
      have d4:(m.alloc F).heap.size=(m:Nat)+1:=Y;refine⟨by rw[am];simp,?_,?_,?_,?_⟩
      ·unfold Bw;rw[am,GL,Qa];exact D
      ·exact Sqi ((aj.trans (ar.mono dg)).alloc dh F) o Z (λdj cz=>(al.lt dj cz).1)
      ·intro e;have a3:v=g.heap.size:=(by simpa [Value.ownBlock]using e);rcases ah with ag|ag
       ·exact ax (by rw[ag,a3])
       omega
      exact(o.block _ Z (λe=>ax e.symm)).trans ((Sqj _ _ _ Z).trans ((ar.block _ c9).trans ao)))
     have cj:=V ai;have bx:U (i<d.length):=V bw;clear al aj ax ao am a0 a7 aw bl a1 cc ai ar a2 c7 co c5 di da;go_upto_region 9 with fail
     rw[<-cj.q];go_wp2_with (at_builtin;refine wpList_append_lies _ I _ _ 65 I w 71 i0 (.agg #[O,(),O]) 3 32 underlying65 ct cu cv cw I Z (.slice t l.length u) l.length (Cb l) I (b5.q _) m 1 1 [.int .i64 E,.string (S.B lt),.int .i64 (x+f)] I I b1.q b3.q Z (by unfold maxLen;omega) Z (by simp;omega) ((m:Nat)+1) Y ?_)
     intro v K H b4 br bo c4;have ch:=V (b2.q _ H v K br b4 bo);clear b4 br bo c4 b2 b1 b3 b5 dl dm dn bi cf a3 dk;go_wp2_with (fail);go_roundw
     case rel=>exact⟨i+1,l.length+1,some ⟨v,0,none⟩,K,by have:=bx.q;omega,by go_num,rfl,ch⟩
     case measure=>have:=bx.q;simp[intOf];omega
    have cx:i=d.length:=Z;subst cx;have ci:U (r=(Bf 0 (h.take (a+1))).length/\Bw w t u (Bf 0 (h.take (a+1))) wr/\Below w w wr):=V (by
     obtain⟨o,D,ah,_⟩:=a0.q;rw[Qbl]at o D;rw[db.q];exact⟨o,D,ah⟩)
    clear a0;go_wp2_with (fail);go_roundw
    case rel=>exact⟨a+1,r,t,u,Z,by go_num,rfl,ci⟩
    case measure=>exact Sj
  have cy:a=G.length:=Z;subst cy;have a5:U (r=(Bf 0 h).length/\Bw w z C (Bf 0 h) g/\Below w w g):=V (by
   obtain⟨o,D,ah⟩:=az.q;rw[c0.q,Qbl]at o D;exact⟨o,D,ah⟩)
  clear az;go_wp2;go_ret;exact⟨z,C,by rw[a5.q.1];rfl,a5.q.2.1,a5.q.2.2⟩
theorem zew (s:Sb)(w:Sw)(d:1500<s.size):Calls prog 38 #[s] w λe a=>e=.returned (.tuple #[.pointer none,(1:Int)])/\a=w:=by
 have f:(1500:Int)<(s.size:Int):=Z;go_enter func38,ntmps38;go_wp2;go_ret2;exact⟨rfl,rfl⟩
theorem zcp (s:Sb)(w:Sw)(A:s.size<=1500)(p:Cv w w):Calls prog 38 #[s] w λe g=>e=.returned (.tuple #[.pointer (some w),O])/\Below w w g/\Gq (λd=>w<d) w g s:=by
 have D:¬(1500:Int)<(s.size:Int):=Z;obtain⟨a,j⟩:=Qzz (w.alloc (.cells #[(),Sx] 94));have m:Below w w a:=by rw[j];exact Sr.alloc (Qc _) _
 have q:a.heap[w.heap.size]?=some (.cells #[(),Sx] 94 (0,0)):=by rw[j];exact Ak _ _
 have z:w<a.heap.size:=by rw[j];simp
 have u:=V (TM s a Z);have v:U (∀h,Below a a h->Calls prog 58 #[.pointer (some w),s] h λe g=>e=.returned (.tuple #[])/\U (Below w w g/\Gq (λd=>w<d) w g s)):=V (λh f=>by
  have F:=f.size;have o:=m.trans (f.mono Z);refine(KX (λd=>w<d) w ⟨#[]⟩ s none 0 [] h A ((f.block _ z).trans q) Y (λi C k=>by simp at k) (λi C k=>by simp at k) (p.below o) (λd E=>by show w.heap.size<d;omega) Y).mono ?_;rintro e g⟨rfl,r,t⟩;exact⟨rfl,V ⟨o.trans r.1,t⟩⟩)
 have y:=V j;clear j m q p;go_enter func38,ntmps38;go_wp2_with fail
 rw[<-y.q];apply u.m;rintro e h⟨rfl,f⟩;have x:=V (v.q h f);clear f;go_wp2_with fail
 apply x.m;rintro e G⟨rfl,l⟩;go_wp2;go_ret2;exact⟨rfl,l.q.1,l.q.2⟩
theorem ze0 {A:Nat->Prop}(d:Nat)(s j:Sb)(p r:Int)(w:Sw)(g:Gq A d w s)(u:p<=9223372036854775807)(a:p<0\/r<0\/(s.size:Int)<p+r):Calls prog 43 #[.pointer (some d),p,r,j] w λe h=>e=.returned (2:Int)/\h=w:=by
 obtain⟨v,k,m,y,f,_⟩:=g;have l:=X f 0 _ rfl;clear f;by_cases o:p<0
 ·clear a;go_enter func43,ntmps43;go_wp2;go_ret;exact⟨rfl,rfl⟩
 by_cases q:r<0
 ·clear a;go_enter func43,ntmps43;go_wp2;go_ret;exact⟨rfl,rfl⟩
 have x:IntKind.i64.wrap ((s.size:Int)-p)=(s.size:Int)-p:=by rw[Sqe];omega
 have t:(s.size:Int)-p<r:=Z;clear a;go_enter func43,ntmps43;go_wp2;go_ret;exact⟨rfl,rfl⟩
theorem zh9 {A:Nat->Prop}(a:Nat)(s d:Sb)(p r:Nat)(w:Sw)(g:Gq A a w s)(v:p+r<=s.size)(u:1500<s.size-r+d.size):Calls prog 43 #[.pointer (some a),p,r,d] w λe h=>e=.returned (1:Int)/\h=w:=by
 obtain⟨x,j,l,D,f,_⟩:=g;have k:=X f 0 _ rfl;have m:¬(p:Int)<0:=Z;have o:¬(r:Int)<0:=Z;have y:IntKind.i64.wrap ((s.size:Int)-(p:Int))=(s.size:Int)-(p:Int):=by rw[Sqe];omega
 have q:¬(s.size:Int)-(p:Int)<(r:Int):=Z;have z:IntKind.i64.wrap ((s.size:Int)-(r:Int))=(s.size:Int)-(r:Int):=by rw[Sqe];omega
 have C:IntKind.i64.wrap (1500-((s.size:Int)-(r:Int)))=1500-((s.size:Int)-(r:Int)):=by rw[Sqe];omega
 have t:1500-((s.size:Int)-(r:Int))<(d.size:Int):=Z;clear f;go_enter func43,ntmps43;go_wp2;go_ret;exact⟨rfl,rfl⟩
def edited (s a:Sb)(p r:Nat):ByteArray:=s.extract 0 p++a++s.extract (p+r) s.size
theorem zlb (s a:Sb)(p r:Nat)(d:p+r<=s.size):(edited s a p r).size=s.size-r+a.size:=by
 unfold edited;simp only[ByteArray.size_append,ByteArray.size_extract];omega
theorem zmj (A:Nat->Prop)(f:Nat)(s j:Sb)(p r:Nat)(w:Sw)(y:Gq A f w s)(ar:p+r<=s.size)(v:s.size-r+j.size<=1500)(an:Cv f w)(ah:∀j,w.heap.size<=j->A j)(ai:¬A f):Calls prog 43 #[.pointer (some f),p,r,.string j] w λe g=>e=.returned O/\Gr f w g/\Gq A f g (edited s j p r):=by
 have T:=y.lt;have aj:=V y;obtain⟨au,aa,ac,W,q,P,L,R⟩:=y;have bf:=Ym s au;have Q:∀(i:Nat) (m:Pm),W[i]?=some m->∃G,Md A w m G:=λi m x=>by
  have ap:i<(Gp s).length:=by rw[<-P];exact(Qb.1 x).1
  exact⟨_,R i m _ x (Qg ap)⟩
 have M:=zlb s j p r ar;have ab:w.cell? f=some (.string s):=X q 0 _ rfl;have a6:¬(p:Int)<0:=Z;have a7:¬(r:Int)<0:=Z;have bi:IntKind.i64.wrap ((s.size:Int)-(p:Int))=(s.size:Int)-(p:Int):=by rw[Sqe];omega
 have a8:¬(s.size:Int)-(p:Int)<(r:Int):=Z;have bj:IntKind.i64.wrap ((s.size:Int)-(r:Int))=(s.size:Int)-(r:Int):=by rw[Sqe];omega
 have bk:IntKind.i64.wrap (1500-((s.size:Int)-(r:Int)))=1500-((s.size:Int)-(r:Int)):=by rw[Sqe];omega
 have a9:¬1500-((s.size:Int)-(r:Int))<(j.size:Int):=Z;have ba:(0:Int)<=(p:Int):=Z;have bb:(p:Int)<=(s.size:Int):=Z;have bl:IntKind.i64.wrap ((p:Int)+(r:Int))=(p:Int)+(r:Int):=by rw[Sqe];omega
 have bc:(0:Int)<=(p:Int)+(r:Int):=Z;have bd:(p:Int)+(r:Int)<=(s.size:Int):=Z;have bh:((p:Int)+(r:Int)).toNat=p+r:=Z;have F:(s.extract 0 p).size=p:=by simp;omega
 have ax:(s.extract (p+r) s.size).size=s.size-(p+r):=Y;obtain⟨l,u⟩:=Qzz (w.alloc (.cells #[.pointer none,Sx] 104));have D:=Vm w;rw[<-u]at D;have C:Below w w l:=by rw[u];exact Sr.alloc (Qc _) _
 have N:U (∀a,Below w w a->a.cell? f=some (.string s)):=V (λa d=>(d.cell (p:=⟨f,0,none⟩) T).trans ab);have z:U (∀(k:List UInt8) (h:Sb) (a:Sw),k.length+h.size<=1000000->Lib.IsBuilderF 104 5 w.heap.size w (Lib.byteCells k) a/\Below w w a->Calls prog 60 #[.pointer (some w),h] a λe g=>e=.returned (.tuple #[h.size,.nilIface])/\g.cell? f=some (.string s)/\U (Lib.IsBuilderF 104 5 w.heap.size w (Lib.byteCells (k++h.data.toList)) g/\Below w w g)):=V (λk h a bg d=>by
  refine(TT w w k h a d.1 Z d.2.size).mono ?_;rintro e g⟨rfl,t,o⟩;have H:=d.2.trans o;exact⟨rfl,N.q g H,V ⟨t,H⟩⟩)
 have ak:U (∀(k:List UInt8) (a:Sw),Lib.IsBuilderF 104 5 w.heap.size w (Lib.byteCells k) a/\Below w w a->Calls prog 61 #[.pointer (some w)] a λe g=>e=.returned (S.B k)/\U (Below w w g)):=V (λk a d=>by
  refine(Tryz.Tz w w k a d.1 d.2.size).mono ?_;rintro e g⟨rfl,_,o,_⟩;exact⟨rfl,V (d.2.trans o)⟩)
 have al:U (∀(h:Sb) (a:Sw),h=edited s j p r->Below w w a->Calls prog 58 #[.pointer (some f),h] a λe g=>e=.returned (.tuple #[])/\U (Gr f w g/\Gq A f g (edited s j p r))):=V (λh a E d=>by
  subst E;refine(KX A f s (edited s j p r) aa ac W a (by rw[M];exact v) ((d.block f T).trans q) Z (L.move (.of d)) (λi m x=>by obtain⟨G,aw⟩:=Q i m x;exact⟨G,aw.move (.of d)⟩) (an.below (d.mono Z)) (λh E=>ah h (Qj d.size E)) ai).mono ?_;rintro e g⟨rfl,t,o⟩;exact⟨rfl,V ⟨⟨(d.mono Z).trans t.1,λh v aq=>(t.2 h (Qh v d.size) aq).trans (d.block h v)⟩,o⟩⟩)
 have av:U (Lib.IsBuilderF 104 5 w.heap.size w (Lib.byteCells []) l/\Below w w l):=V ⟨D,C⟩;have a5:l.cell? f=some (.string s):=N.q l C;have am:=V u;have ao:U (S.B ((([]++(s.extract 0 p).data.toList)++j.data.toList)++(s.extract (p+r) s.size).data.toList)=edited s j p r):=V (by
  unfold edited S.B;apply ByteArray.ext
  simp[ByteArray.data_append])
 clear q L R D u C Q P M aj;go_enter func43,ntmps43;go_upto_region 6 with fail
 rw[<-am.q];go_wp2_with fail
 refine(z.q [] (s.extract 0 p) l (by rw[Qi,F];omega) av.q).mono ?_;rintro e ay⟨rfl,a2,q⟩;go_wp2_with fail
 refine(z.q _ j ay (by rw[SY,S.lda,F];omega) q.q).mono ?_;rintro e az⟨rfl,a3,ae⟩;go_wp2_with fail
 refine(z.q _ (s.extract (p+r) s.size) az (by rw[Qa,SY,S.lda,S.lda,F,ax];omega) ae.q).mono ?_;rintro e a0⟨rfl,a4,af⟩;go_wp2_with fail
 refine(ak.q _ a0 af.q).mono ?_;rintro e a1⟨rfl,ag⟩;rw[ao.q];go_wp2_with fail
 refine(al.q _ a1 rfl ag.q).mono ?_;rintro e bm⟨rfl,K⟩;go_wp2;go_ret;exact⟨rfl,K.q.1,K.q.2⟩
