import Derived.Test.YtlojgpkajkedeaaGreatDoorOTF
import Derived.Test.YtlojgpkajkedeaaGreatDoorORQ
import Derived.Maps.AppendAt
import Derived.Deep.AppendLies
import Derived.Laws.AppendOwnNone
set_option maxHeartbeats 0
set_option maxRecDepth 100000
namespace Go.Proofs.YtlojgpkajkedeaaGreatDoor
open Go.RowKit Go.Proofs.Tryz
mutual
def Oc (a:Nat):Rn->List Nd
 |.nd d n i h _ f=>⟨(a:Int),d,n,S.B i,S.B h⟩ :: Ed (a+1) f
def Ed (a:Nat):List Rn->List Nd
 |[]=>[]
 |n::g=>Oc a n++Ed a g
end
theorem zb0 (d:Nat)(a b:List Rn):Ed d (a++b)=Ed d a++Ed d b:=by
 induction a with
 |nil=>rfl
 |cons h g f=>simp only[List.cons_append,Ed,f,Qp]
theorem zlc (k:Int)(t:List UInt8)(a:Bool):S.B (Ec k t a)=textOf k (S.B t) a:=by
 unfold Ec textOf;by_cases d:k=3
 ·simp[d]
 by_cases f:k=6
 ·subst f;cases a<;>rfl
 simp[d,f];rfl
mutual
def Oq:S.Ac->Prop
 |.at_ _ a _ _ _ _ d=>(a=1\/a=2->d=[])/\Jw d
def Jw:List S.Ac->Prop
 |[]=>True
 |b::f=>Oq b/\Jw f
end
theorem zfb (k:Int)(b:S.Ac):Oq (b.put k)↔Oq b:=by
 cases b
 simp only[S.Ac.put,Oq]
theorem zfm (f:List (List UInt8)->List S.Ac×Bool)(d:∀k,Jw (f k).1)(kind:UInt8)(g a:Nat)(m:S.Mark)(row:List (List UInt8)):Jw (S.Bt f kind g a m row).1:=by
 induction a generalizing m row with
 |zero=>simp only[S.Bt,Jw]
 |succ a j=>
  rw[S.Kv];split
  ·simp only[Jw,Oq];exact⟨⟨λh=>Z,d _⟩,j _ _⟩
  simp only[Jw,Oq];exact⟨⟨λh=>Z,d _⟩,trivial⟩
theorem zhv (f:List (List UInt8)->List S.Ac×Bool)(h:∀d,Jw (f d).1)(d:List UInt8)(r:List (List UInt8)):Oq (S.A8 f (d::r)).1:=by
 unfold S.A8;dsimp only;split
 ·exact⟨λ_=>rfl,trivial⟩
 split
 ·exact⟨λ_=>rfl,trivial⟩
 split
 ·exact⟨λ_=>rfl,trivial⟩
 split
 ·exact⟨λ_=>rfl,trivial⟩
 split
 ·exact⟨λa=>by have a:=a;omega,h _⟩
 split
 ·rw[S.Lp];exact⟨λa=>by have a:=a;omega,zfm f h _ _ _ _ _⟩
 have g:=S.Vr (d::r);obtain⟨b,j⟩:=Qyy ((S.Cr (d::r)).1);rw[j]at g ⊢;obtain⟨p,l,n,i,o,m,Ab⟩:=b;have k:=g.2;subst k;exact⟨λ_=>rfl,trivial⟩
theorem zmo (d:List (List UInt8)->List S.Ac×Bool)(h:∀f,Jw (d f).1)(g a:Nat)(row:List (List UInt8)):Jw (S.rowFrom d g a row).1:=by
 induction a generalizing row with
 |zero=>simp only[S.rowFrom,Jw]
 |succ a j=>
  cases row with
  |nil=>rw[S.K6];simp only[Jw]
  |cons f k=>
   rw[S.Mf _ _ _ _ Y];exact⟨(zfb _ _).2 (zhv d h f k),j _⟩
theorem zm7 (e:Nat)(row:List (List UInt8)):Jw (S.Ag e row).1:=by
 induction e generalizing row with
 |zero=>simp only[S.Ag,Jw]
 |succ e a=>
  rw[show S.Ag (e+1) row=S.rowFrom (S.Ag e) row.length row.length (row.drop (S.Az row)) from rfl];exact zmo (S.Ag e) a _ _ _
theorem YM (a:Nat):Oi (λg f=>Dn g [] 0 f) a:=zb9 _ ZL (λa d=>zad _ a d) a
mutual
theorem Fx.mono {C g:List UInt8->List Rn->Prop} (h:∀f d,C f d->g f d) {z:Int} {b:S.Ac} {n:Rn} (a:Fx C z b n):Fx g z b n:=by
 cases b with
 |at_ s l u i y t p=>
  cases n with
  |nd o v m A r q=>
   simp only[Fx]at a ⊢;refine⟨a.1,a.2.1,a.2.2.1,a.2.2.2.1,a.2.2.2.2.1,?_⟩;have j:=a.2.2.2.2.2;by_cases k:l=1\/l=2
   ·rw[if_pos k]at j ⊢;exact h _ _ j
   rw[if_neg k]at j ⊢;exact Bb.mono h j
theorem Bb.mono {C g:List UInt8->List Rn->Prop} (h:∀f d,C f d->g f d) {z:Int} {bs:List S.Ac} {d:List Rn} (a:Bb C z bs d):Bb g z bs d:=by
 cases bs with
 |nil=>
  cases d with
  |nil=>trivial
  |cons n f=>simp only[Bb]at a
 |cons b x=>
  cases d with
  |nil=>simp only[Bb]at a
  |cons n f=>
   simp only[Bb]at a ⊢;exact⟨Fx.mono h a.1,Bb.mono h a.2⟩
end
mutual
def Ig:Pt->Prop
 |.mk a _ _ Ab _ _ _=>8<=a/\a<=15/\(a<=11->Ab=[])/\Dv Ab
def Dv:List Pt->Prop
 |[]=>True
 |p::d=>Ig p/\Dv d
end
theorem Ny (p:Pt)(r:List Pt):Dv (p::r)↔Ig p/\Dv r:=by simp only[Dv]
theorem Pg:Dv []:=by simp only[Dv]
theorem Mc (a b:List Pt):Dv (a++b)↔Dv a/\Dv b:=by
 induction a with
 |nil=>simp[Dv]
 |cons f g d=>simp only[List.cons_append,Ny,d,and_assoc]
theorem Ub (p:Pt):Dv [p]↔Ig p:=by simp[Dv]
theorem BN (p:Pt)(t:List UInt8):Ig (p.Au t)↔Ig p:=by
 cases p with
 |mk d i g Ab f a b=>show Ig (.mk d i t Ab f a b)↔_;simp only[Ig]
theorem UM (f:Nat)(l:List Pt)(a:Dv l):Dv (D8 f l):=by
 induction f generalizing l with
 |zero=>exact Pg
 |succ f d=>
  cases l with
  |nil=>exact Pg
  |cons j h=>
   rw[Ny]at a;simp only[D8];split
   ·split
    ·exact d h a.2
    cases h with
    |nil=>exact(Ub j).2 a.1
    |cons k m=>
     have g:=a.2;rw[Ny]at g;dsimp only;split
     ·exact d _ ((Ny _ _).2 ⟨(BN _ _).2 g.1,g.2⟩)
     exact(Ny _ _).2 ⟨a.1,d _ a.2⟩
   exact(Ny _ _).2 ⟨a.1,d h a.2⟩
theorem za0 (d:Nat)(L:List Pt)(s:Pt)(a:Dv (L++[s])):Dv ((Dr d L s).1++[(Dr d L s).2]):=by
 induction d generalizing L s with
 |zero=>exact a
 |succ d k=>
  simp only[Dr];split
  ·cases j:Fw s L with
   |none=>exact a
   |some m=>
    obtain⟨l,o,f⟩:=m;dsimp only;refine k _ _ ?_;obtain⟨g,p⟩:=Tq s L l o f j;subst g;simp only[Mc,Ny]at a;simp only[Mc,Ny];refine⟨⟨a.1.1,(BN _ _).2 a.1.2.1,?_,Pg⟩,(BN _ _).2 a.2.1,Pg⟩;have h:Dv (F7 f):=UM _ _ a.1.2.2;unfold La;simp only[Ig];refine⟨by split<;>decide,by split<;>decide,?_,h⟩;intro e;exfalso;revert e;split<;>decide
  exact a
theorem ze8 (L l:List Pt)(a:Dv (L++l)):Dv (Ic L l):=by
 induction l generalizing L with
 |nil=>simpa [Ic]using a
 |cons f g d=>
  simp only[Ic];refine d _ ?_;rw[Mc,Ny]at a;rw[Mc];exact⟨za0 _ _ _ ((Mc _ _).2 ⟨a.1,(Ub f).2 a.2.1⟩),a.2.2⟩
theorem WI (l:List Pt)(a:Dv l):Dv (He l):=by
 unfold He F7;exact UM _ _ (ze8 [] l a)
theorem Ta (k:Int)(i t:List UInt8)(z:Nat)(a b:Bool)(d:8<=k)(f:k<=15):Ig (.mk k i t [] z a b):=by
 simp only[Ig];exact⟨d,f,λ_=>trivial,Pg⟩
theorem FR (t:List UInt8):Ig (Db t):=Ta _ _ _ _ _ _ J J
theorem DF (a:Sb)(d k:Nat):Dv (D6 a d k):=by
 unfold D6;split
 ·exact(Ub _).2 (FR _)
 exact Pg
def Ik (s:St):Prop:=Dv s.ps
theorem Ik.skip {s:St}(d:Ik s)(a:Sb)(n:Nat):Ik (s.skip a n):=(Mc _ _).2 ⟨d,DF a s.f s.k⟩
theorem Ik.text {s:St}(a:Ik s)(n:Nat):Ik (s.text n):=a
theorem Ik.lay {s:St}(d:Ik s)(a:Sb)(p:Pt)(n:Nat)(f:Ig p):Ik (s.lay a p n):=(Mc _ _).2 ⟨(Mc _ _).2 ⟨d,DF a s.f s.k⟩,(Ub p).2 f⟩
theorem Ik.open {s:St}(d:Ik s)(a:Sb)(t:List UInt8)(f:Bool):Ik (s.open a t f):=Ik.lay d a (Db t) t.length (FR t)
theorem zkw (l:List Pt)(d:Nat)(a:Dv l):Dv (l.take d):=by
 rw[<-Sy d l,Mc]at a;exact a.1
theorem zah (l:List Pt)(d:Nat)(a:Dv l):Dv (l.drop d):=by
 rw[<-Sy d l,Mc]at a;exact a.2
theorem Ik.Ci {s:St}(a:Ik s)(d:Sb):Ik (s.Ci d).2:=by
 unfold St.Ci;split
 ·unfold St.close;split
  ·exact a
  rename_i g _;split
  ·refine(Mc _ _).2 ⟨zkw _ _ a,(Ub _).2 ?_⟩;have f:=WI (s.ps.drop (g.j+1)++D6 d s.f s.k) ((Mc _ _).2 ⟨zah _ _ a,DF d s.f s.k⟩);unfold Nv;simp only[Ig];refine⟨by split<;>decide,by split<;>decide,?_,f⟩;intro e;exfalso;revert e;split<;>decide
  exact a
 split
 ·exact a.open d _ _
 split
 ·exact a.open d _ _
 exact a
theorem Ik.step {s:St}(a:Ik s)(d:Sb)(f:s.k<d.size):Ik (step d s):=by
 rw[Kz d s f];unfold J3;split
 ·split
  ·exact a.lay d _ _ (Ta _ _ _ _ _ _ J J)
  split
  ·exact(a.skip d 1).text 1
  exact a.text 1
 split
 ·split
  ·exact a.lay d _ _ (Ta _ _ _ _ _ _ J J)
  exact a.text _
 split
 ·split
  ·split
   ·exact a.lay d _ _ (Ta _ _ _ _ _ _ J J)
   exact a.lay d _ _ (Ta _ _ _ _ _ _ J J)
  exact a.text _
 split
 ·exact a.lay d _ _ (Ta _ _ _ _ _ _ J J)
 split
 ·split
  ·refine a.lay d _ _ ?_;unfold M5;simp only[Ig];exact⟨J,J,λe=>absurd e J,(Ub _).2 (FR _)⟩
  exact a.text 1
 split
 ·exact a.lay d _ _ (Ta _ _ _ _ _ _ J J)
 split
 ·split
  ·exact a.Ci d
  exact(a.Ci d).text 1
 exact a.text 1
theorem zja (d:Sb)(s:St)(r:List Pt)(a:Ends d s r)(f:Ik s):Dv r:=by
 induction a with
 |done s a=>exact f.skip d 0
 |go s r a h g=>exact g (f.step d a)
theorem Zg (c:List UInt8):Dv (Ey c):=by
 by_cases f:∃a,Ends (S.B c) Ki a
 ·obtain⟨a,d⟩:=f;rw[Ut c a d];exact WI a (zja _ _ _ d Pg)
 unfold Ey;rw[dif_neg f];exact Pg
mutual
def Ka:Rn->Nat
 |.nd _ _ _ _ _ a=>1+Ei a
def Ei:List Rn->Nat
 |[]=>0
 |n::d=>Ka n+Ei d
end
theorem NM (a b:List Rn):Ei (a++b)=Ei a+Ei b:=by
 induction a with
 |nil=>simp[Ei]
 |cons g f d=>simp only[List.cons_append,Ei,d,Nat.add_assoc]
theorem zch (n:Rn):1<=Ka n:=by cases n;simp only[Ka];omega
theorem ziq (l:List Rn):l.length<=Ei l:=by
 induction l with
 |nil=>simp
 |cons a f d=>have:=zch a;simp only[Qd,Ei];omega
theorem zgr (l:List Rn)(i:Nat)(t:Rn)(a:l[i]?=some t):Ka t<=Ei l:=by
 induction l generalizing i with
 |nil=>simp at a
 |cons g f d=>
  simp only[Ei];cases i with
  |zero=>simp at a;subst a;omega
  |succ i=>have:=d i (by simpa using a);omega
mutual
theorem zha (a:Nat) (n:Rn):(Oc a n).length=Ka n:=by
 cases n with
 |nd j n i k d f=>simp only[Oc,Ka,Qd];rw[V8 (a+1) f];omega
theorem V8 (a:Nat) (d:List Rn):(Ed a d).length=Ei d:=by
 cases d with
 |nil=>rfl
 |cons h g=>simp only[Ed,Ei,Qa];rw[zha a h,V8 a g]
end
def E5 (p:Af):Nat:=if p.what=1 then Ka p.node else p.s.length+p.left
def Dx (l:List Af):Nat:=(l.map E5).sum
theorem Jm (a b:List Af):Dx (a++b)=Dx a+Dx b:=by simp[Dx]
theorem Pp (p:Af)(r:List Af):Dx (p::r)=E5 p+Dx r:=by simp[Dx]
theorem zi9:Dx []=0:=rfl
theorem Nc (p:Af):Dx [p]=E5 p:=by simp[Dx]
theorem KT (t:List UInt8):Ei (Ma t)<=t.length:=by
 unfold Ma;split
 ·simp[Ei]
 rename_i a;have:0<t.length:=by
  cases t with
  |nil=>exact absurd rfl a
  |cons=>simp
 simp only[Ei,Ka];omega
theorem TI (l:List Af)(t:List UInt8):Ei (F8 l t)<=t.length+Dx l:=by
 induction l generalizing t with
 |nil=>have:=KT t;simp only[F8];omega
 |cons f j g=>
  simp only[F8];rw[Pp];split
  ·rename_i d;have h:=KT t;have a:=g [];rw[NM];simp only[Ei,E5,if_pos d,Qi]at a ⊢;omega
  rename_i d;have a:=g (t++f.s++List.replicate f.left f.c);simp only[E5,if_neg d,Qa,List.length_replicate]at a ⊢;omega
theorem Y3 (n:Rn):E5 (C8 n)=Ka n:=by simp[E5,C8]
theorem zbc (l:List Af)(i:Nat):Dx (K8 l i).1<=Dx l:=by
 unfold K8;cases s:l[i]? with
 |none=>exact Qc _
 |some a=>
  dsimp only;split
  ·rename_i u;cases o:Hz l a i with
   |none=>exact Qc _
   |some f=>
    obtain⟨p,A,m,h⟩:=Xk l a i f o;dsimp only;cases k:l[f]? with
    |none=>exact Qc _
    |some d=>
     dsimp only;rw[k]at m;have:=Qy m;subst this;unfold Ml at h;simp only[Bool.and_eq_true,decide_eq_true_iff]at h;have t:=IZ l f i d a p k s;have q:Dx l=Dx (l.take f)+(E5 d+(Dx ((l.take i).drop (f+1))+(E5 a+Dx (l.drop (i+1))))):=by
      rw[congrArg Dx t,Jm,Pp,Jm,Pp]
     unfold Lh;rw[Jm,Pp,Pp,Pp,Y3,q];have r:=TI ((l.take i).drop (f+1)) [];have x:1<=E9 d a:=(by unfold E9;split<;>omega);have v:Ka (Ju (E9 d a) ((l.take i).drop (f+1)))=1+Ei (F8 ((l.take i).drop (f+1)) []):=(by unfold Ju;simp only[Ka]);have y:E5 (Ia d (E9 d a))+1<=E5 d:=by
      have g:¬d.what=1:=(by rw[h.1.1.1.1];decide);have j:¬(Ia d (E9 d a)).what=1:=g;simp only[E5,if_neg g,if_neg j];show d.s.length+(d.left-E9 d a)+1<=_;have:=h.1.2;omega
     have z:E5 (Ia a (E9 d a))<=E5 a:=by
      have g:¬a.what=1:=(by rw[u.1];decide);have j:¬(Ia a (E9 d a)).what=1:=g;simp only[E5,if_neg g,if_neg j];show a.s.length+(a.left-E9 d a)<=_;omega
     rw[v];simp only[Qi]at r;omega
  exact Qc _
theorem Ii.cnt {l:List Af}{i:Nat}{ns:List Rn}(a:Ii l i ns):Ei ns<=Dx l:=by
 induction a with
 |done l i a=>have:=TI l [];simpa using this
 |step l i ns a f d=>exact Qj d (zbc l i)
theorem YJ (l:List Af)(k:Nat)(f a:Af)(d:l[k]?=some f)(g:E5 a=E5 f):Dx (l.set k a)=Dx l:=by
 have j:(l.set k a).map E5=l.map E5:=by
  rw[List.map_set];apply List.ext_getElem?
  intro i;by_cases e:k=i
  ·subst e;have h:=(Qb.1 d).1;rw[List.getElem?_set_self (by simpa using h),SA,d,g];rfl
  rw[List.getElem?_set_ne e]
 unfold Dx;rw[j]
theorem zn7 (d:Bool)(a:Af):E5 (Dq d a)=E5 a:=by
 unfold Dq;split<;>rfl
theorem za2 (d:Bool)(l:List Af):Dx (l.map (Dq d))=Dx l:=by
 induction l with
 |nil=>rfl
 |cons g f a=>rw[Qs,Pp,Pp,a,zn7]
theorem FY (l:List Af)(k:Nat):Dx (l.take k)+Dx (l.drop k)=Dx l:=by rw[<-Jm,Sy]
theorem U7 (t:List UInt8):E5 (Cn t)=t.length:=by simp[E5,Cn]
theorem Jl.cnt {l k:List Af}{t:List UInt8}{p s:Nat}(a:Jl l t p k s):Dx k<=Dx l+1:=by
 rcases a with ⟨_,a,_⟩|⟨d,g,o,f,_,a,_⟩|⟨d,g,v,_,f,_,_,q,a,_⟩
 ·rw[a,Jm,Nc,U7];simp
 ·obtain⟨_,x,j,r⟩:=NH l l.length d o;rw[f]at j;have:=Qy j;subst this;rw[a,Jm,Nc,U7,YJ l d g _ f (by
   have h:¬g.what=1:=by rw[r];decide
   simp only[E5,if_neg h];rfl)]
  simp
 rw[a,Jm,Nc,Y3,za2];have h:=q.cnt;have u:=FY l d;have m:=FY (l.drop d) 1;rw[Qbb]at m;simp only[Ka];omega
theorem XT (l:List Af)(k:Nat):Dx (l.take k)<=Dx l:=by have:=FY l k;omega
theorem S.zb6 (l:List UInt8)(c:UInt8)(f:l[0]?=some c):1<=S.same l/\S.same l<=l.length:=by
 cases l with
 |nil=>simp at f
 |cons a d=>
  have:=S.Yp a (a::d);have g:S.same (a::d)=S.cnt a (a::d):=rfl;rw[g];refine⟨?_,this⟩;simp only[S.cnt];simp
theorem Hu.cnt {t:List UInt8}{l p:List Af}{i f:Nat}(a:Hu t l i p f):i<f/\f<=t.length/\Dx p<=Dx l+2*(f-i):=by
 obtain⟨c,g,a⟩:=a;have y:=(Qb.1 g).1;have hd:(t.drop i)[0]?=some c:=by rw[Qn,SL];exact g
 have h:∀o q,Dx [Gi o q]=1:=λo q=>by rw[Nc];unfold Gi;rw[Y3];rfl
 split at a
 ·rename_i d;have:=(Qb.1 d.2).1;rw[a.1,a.2,Jm,h];omega
 split at a
 ·rename_i d;have z:i+1<t.length:=by
   have k:=d.2;cases e:t[i+1]? with
   |none=>rw[e]at k;simp at k
   |some x=>exact(Qb.1 e).1
  rw[a.1,a.2,Jm,Nc,U7];have:((t.drop (i+1)).take 1).length<=1:=by rw[Ql];omega
  omega
 split at a
 ·rename_i s;subst s;have j:1<=S.cnt 96 (t.drop i):=by
   cases m:t.drop i with
   |nil=>rw[m]at hd;simp at hd
   |cons x A=>rw[m]at hd;simp at hd;subst hd;simp[S.cnt]
  have d:=S.Yp 96 (t.drop i);rw[Qf]at d;split at a
  ·rename_i u;have:=CK t i j u;rw[a.1,a.2,Jm,h];omega
  rw[a.1,a.2,Jm,Nc,U7];have:((t.drop i).take (S.cnt 96 (t.drop i))).length<=S.cnt 96 (t.drop i):=by rw[Ql];omega
  omega
 split at a
 ·rename_i d;have:=FN t i d.2;rw[a.1,a.2,Jm,Nc];unfold Mk;rw[Y3];simp only[Ka,Ei];omega
 split at a
 ·rw[a.1,a.2,Jm,h];have:=XT l (l.length-Dz t i);omega
 split at a
 ·have v:=S.zb6 _ c hd;rw[Qf]at v;rw[a.1,a.2,Jm,Nc];have:E5 (Kh t i)=S.same (t.drop i):=by simp[E5,Kh]
  omega
 split at a
 ·rw[a.1,a.2,Jm,Nc];have:E5 (Ht [91] false)=1:=by simp[E5,Ht]
  omega
 split at a
 ·rename_i d;have:=(Qb.1 d.2).1;rw[a.1,a.2,Jm,Nc];have:E5 (Ht [33,91] true)=2:=by simp[E5,Ht]
  omega
 split at a
 ·rename_i r;subst r;have j:=a.place g;have d:=a.cnt;omega
 rw[a.1,a.2,Jm,Nc,U7];have:((t.drop i).take 1).length<=1:=by rw[Ql];omega
 omega
theorem Dn.cnt {t:List UInt8}{l:List Af}{i:Nat}{ns:List Rn}(a:Dn t l i ns)(h:i<=t.length)(j:Dx l<=2*i):Ei ns<=2*t.length:=by
 induction a with
 |done l i ns a d=>have:=d.cnt;omega
 |step l i o m ns f k g=>have:=f.cnt;exact g this.2.1 Z
mutual
theorem Fx.cnt {C:List UInt8->List Rn->Prop} (g:∀f a,C f a->Ei a<=3*f.length) {z:Int} {b:S.Ac} {n:Rn} (d:Fx C z b n):Ka n<=S.Gx b:=by
 cases b with
 |at_ t k v i A u q=>
  cases n with
  |nd p x o D s r=>
   simp only[Fx]at d;have h:=d.2.2.2.2.2;simp only[Ka,S.Gx];by_cases j:k=1\/k=2
   ·rw[if_pos j]at h ⊢;have:=g _ _ h;omega
   rw[if_neg j]at h ⊢;have:=Bb.cnt g h;omega
theorem Bb.cnt {C:List UInt8->List Rn->Prop} (g:∀f a,C f a->Ei a<=3*f.length) {z:Int} {bs:List S.Ac} {a:List Rn} (d:Bb C z bs a):Ei a<=S.Fh bs:=by
 cases bs with
 |nil=>
  cases a with
  |nil=>simp[Ei]
  |cons n f=>simp only[Bb]at d
 |cons b y=>
  cases a with
  |nil=>simp only[Bb]at d
  |cons n f=>
   simp only[Bb]at d;have l:=Fx.cnt g d.1;have m:=Bb.cnt g d.2;simp only[Ei,S.Fh];omega
end
theorem zfn (l:List UInt8)(a:Nat)(z:Int)(ns:List Rn)(g:Bb (λd ns=>Dn d [] 0 ns) z (S.Ag a (S.Aw l)).1 ns):Ei ns<=10*(2*l.length+1):=by
 have h:=Bb.cnt (λd ns f=>by have:=Dn.cnt f (Qt _) (by rw[zi9];omega);omega) g;have j:=S.VR a (S.Aw l);have k:=S.L8 l;omega
theorem zn9 (a:Nat)(l:List Rn)(k:Nat)(t:Rn)(d:l[k]?=some t):Ed a (l.take (k+1))=Ed a (l.take k)++Oc a t:=by
 rw[Sv,d,zb0];simp[Ed]
theorem zfl (a:Nat)(l:List Rn)(k:Nat):(Ed a (l.take k)).length<=Ei l:=by
 have d:Ei (l.take k)+Ei (l.drop k)=Ei l:=by rw[<-NM,Sy]
 rw[V8];omega
theorem zm4 (a b:List Nd):Ck (a++b)=Ck a++Ck b:=by simp[Ck]
theorem zn4 (l:List Nd):∀d∈Ck l,d.oneCell'=true:=by
 intro d a;simp only[Ck,List.mem_flatten,List.mem_map]at a;obtain⟨c,⟨f,_,rfl⟩,a⟩:=a;simp[Cg]at a;rcases a with rfl|rfl|rfl|rfl|rfl<;>rfl
theorem zj9 (A:Nat->Prop)(au:Sw)(aw:∀b8,A b8->b8<au)(v:Value)(ns:List Rn)(W:Bv au A v ns):∀(w:Sw) (f:Nat),Below au au w->f+Ei ns<=1000000 ->
  Calls prog 49 #[v,f] w λe b7=>∃o q,e=.returned (.slice o (Ed f ns).length q)/\Bl w o q (Ed f ns) b7/\Below w w b7:=by
 obtain⟨i0,ap,a8,a9,ba⟩:=info_parts Tryz.Yf;induction W with
 |nil=>
  intro w f ac hd;clear ac hd;go_enter func49,ntmps49;go_wp2;refine wp_loop_rounds 1 ?_;rw[rounds_succ];go_wp2;go_ret;exact⟨none,0,rfl,Bl.nil _ _,Sr⟩
 |some b m dk ns d4 bl du bs bv b5=>
  intro w f ac hd;have bm:=aw b bl;have br:=ac.size;have a1:b<w:=Qh bm br;have d1:=ziq ns;have d0:ns.length<=1000000:=Z;have cn:=V bs;have cr:=V bv;have c9:=V b5;have bq:=V ac;have dp:=V aw;have an:=V hd;clear bs bv b5 ac aw bl;go_enter func49,ntmps49;go_wp2;go_loopw [5,6,7] (λdc bb _ wr=>∃(a:Nat) (o:So) (q:Nat),a<=ns.length/\bb=.int .i64 a/\dc=.slice o (Ed f (ns.take a)).length q/\U (Bl w o q (Ed f (ns.take a)) wr/\Below w w wr)) (λ_ bb _ _=>ns.length-(intOf bb).toNat)
  case atStart=>exact⟨0,none,0,Qt _,rfl,by simp[Ed],V ⟨by simpa [Ed]using Bl.nil _ _,Sr⟩⟩
  case round=>
   obtain⟨a,o,q,dy,rfl,rfl,s⟩:=hrel;by_cases cv:a<ns.length
   ·obtain⟨x,R⟩:∃x,ns[a]?=some x:=⟨ns[a],Qg cv⟩;have a2:=cn.q a x R;have a4:=cr.q a x R;have ar:=c9.q a x R;have N:=zn9 f ns a x R;have a5:=zfl f ns (a+1);have a3:=zgr ns a x R;obtain⟨bc,bf,bd,bw⟩:=a4.form;rw[bw]at a2 ar;obtain⟨d,bk⟩:=Qyy (Ed f (ns.take a));rw[bk]at s N ⊢;cases x with
    |nd u n t y db b6=>
    simp only[Oc]at N;simp only[Ka]at a3;simp only[Rn.Ab]at ar a4;obtain⟨nd,a6⟩:∃nd:Nd,nd=⟨(f:Int),u,n,S.B t,S.B y⟩:=⟨_,rfl⟩;rw[<-a6]at N;rw[N,Qa,Qd,V8]at a5;have a0:Below w w wr:=s.q.2;have c7:w<=wr.heap.size:=a0.size;have D:∀j h,(Ko (.nd u n t y db b6) (.slice bc bf bd))[j]?=some h->wr.cell? (b (m+a*7+j))=some h:=λj h F=>
     (a0.cell (p:=⟨b,m+a*7+j,none⟩) a1).trans ((bq.q.cell (p:=⟨b,m+a*7+j,none⟩) bm).trans (a2 j h F))
    have b9:wr.cell? (b (m+a*7))=some (.int .i64 0):=D 0 _ rfl;have ca:wr.cell? (b (m+a*7+1))=some (.int .i64 u):=D 1 _ rfl;have cb:wr.cell? (b (m+a*7+2))=some (.int .i64 n):=D 2 _ rfl;have cc:wr.cell? (b (m+a*7+3))=some (.string (S.B t)):=D 3 _ rfl;have cd:wr.cell? (b (m+a*7+4))=some (.string (S.B y)):=D 4 _ rfl;have ce:U (wr.cell? (b (m+a*7+6))=some (.slice bc bf bd)):=V (D 6 _ rfl);have dr:(a:Int)<(ns.length:Int):=Z;have dq:(0:Int)<=(a:Int):=Z;have da:=V ar;have co:=V N;have bz:=V a6;have bx:=V a5;have cq:=V a3;clear a2 a4 ar bw D bk R N a6 a5 a3 a0;go_upto_region 6 with fail
    obtain⟨H,aa⟩:=Qzz (wr.alloc (.cells #[O,u,n,(S.B t),(S.B y)] 36));rw[<-aa];have bn:Below wr wr H:=(by rw[aa];exact Sr.alloc (Qc _) _);have b1:H.heap.size=(wr:Nat)+1:=(by rw[aa];simp);have aq:H.heap[wr.heap.size]?=some (.cells #[O,u,n,(S.B t),(S.B y)] 36 (0,0)):=(by rw[aa];exact Ak _ _);have cf:=X aq 0 _ rfl;have cg:=Av aq 0;obtain⟨l,ab⟩:=Qzz (H.setCell wr (.int .i64 (f:Int)));have b4:l.heap[wr.heap.size]?=some (.cells #[f,u,n,(S.B t),(S.B y)] 36 (0,0)):=(by rw[ab];exact Aj (cs:=[.int .i64 0,.int .i64 u,.int .i64 n,.string (S.B t),.string (S.B y)]) aq 0 _);have bo:Below wr wr l:=(by rw[ab];exact bn.setCell (p:=⟨wr,0,none⟩) (Qc _) _);have b2:l.heap.size=(wr:Nat)+1:=(by rw[ab];simp[World.setCell,b1]);have cj:=V ab;have ah:=V b4;have bp:=V bo;have b3:=V b2;clear aa bn b1 aq ab b4 bo b2 b9 ca cb cc cd;go_upto_region 7 with fail
    rw[<-cj.q];clear cf cg;have dd:=X ah.q 0 _ rfl;have de:=X ah.q 1 _ rfl;have df:=X ah.q 2 _ rfl;have dg:=X ah.q 3 _ rfl;have dh:=X ah.q 4 _ rfl;have dt:d.length+1<=1000000:=(by have:=bx.q;have:=an.q;omega);have c4:U (∀G,(l.alloc G).ownsRow w 36 5 (.slice o d.length q) d.length (Ck d)):=V (λG=>Bl.alloc (Bl.below s.q.1 bp.q) G);have cz:U (∀j h,(Cg nd)[j]?=some h->(l.alloc (.cells #[f,u,n,(S.B t),(S.B y)] 36)).cell? ((l:Addr).add j)=some h):=V (λj h bu=>World.news_of_block (Ak _ _) j h (by rw[bz.q]at bu;exact bu));have c2:U (∀h∈Cg nd,h.oneCell'=true):=V (by
     intro h F;rw[bz.q]at F;simp[Cg]at F;rcases F with rfl|rfl|rfl|rfl|rfl<;>rfl)
    have cm:U (∀G,Below w w (l.alloc G)):=V (λG=>(s.q.2.trans (bp.q.mono c7)).alloc (by have:=b3.q;omega) G);have cy:U (∀g,(Value.slice o d.length q).ownBlock=some g->w<=g):=V (λg cp=>(s.q.1.lt g cp).1);have d2:w<=l.heap.size:=(by have:=b3.q;omega);go_wp2_with (at_builtin;refine wpList_append_lies _ I _ _ 22 I w 36 i0 (.agg #[O,O,O,(),()]) 5 56 underlying22 ap a8 a9 ba I Z (.slice o d.length q) d.length (Ck d) I (c4.q _) l 1 1 (Cg nd) I I cz.q c2.q Z (by unfold maxLen;omega) Z (by simp;omega) ((l:Nat)+1) Y ?_)
    intro g K T b0 bt cl cw;have am:U (Below w w T):=V (Sqi (cm.q _) bt (by simp;omega) (λai ag=>cy.q ai ag));have c5:U (Bl w (some ⟨g,0,none⟩) K (d++[nd]) T):=V (by
     unfold Bl;rw[DW,Qa];exact b0)
    have c8:w<=T.heap.size:=am.q.size;have dj:T.cell? (b (m+a*7+6))=some (.slice bc bf bd):=(am.q.cell (p:=⟨b,m+a*7+6,none⟩) a1).trans ((s.q.2.cell (p:=⟨b,m+a*7+6,none⟩) a1).symm.trans ce.q);have ak:=da.q T (f+1) (bq.q.trans (am.q.mono br)) (by have:=cq.q;have:=an.q;omega);rw[show ((f+1:Nat):Int)=(f:Int)+1 from by omega]at ak;obtain⟨k,al⟩:=Qyy (Ed (f+1) b6);rw[al]at ak;have ao:U (Ed f (ns.take (a+1))=(d++[nd])++k):=V (by rw[co.q,al];simp);have ds:d.length+1+k.length<=1000000:=by
     have L:=bx.q;have ch:=an.q;rw[<-al,V8];omega
    have ci:=V ak;have dw:(f:Int)+1<=1000001:=(by have:=an.q;omega);clear b0 bt cl cw ak al dd de df dg dh;go_wp2_with (fail);apply ci.m;rintro e aj⟨bh,av,rfl,E,M⟩;have d3:T<=aj.heap.size:=M.size;have P:U (aj.ownsRow w 36 5 (.slice (some ⟨g,0,none⟩) (d.length+1) K) (d.length+1) (Ck (d++[nd]))):=V (by
     have:=c5.q.below M;unfold Bl at this;rw[Qa]at this;exact this)
    have ay:U (Below w w aj):=V (am.q.trans (M.mono c8));by_cases bi:k=[]
    ·subst bi;have ck:(bh=none/\av=0)\/∃r,bh=some ⟨r,0,none⟩:=by
      rcases E.2 with ⟨L,_⟩|⟨r,dl,dm,L,_⟩
      ·injection L with e1 e2 e3;exact .inl ⟨e1,e3⟩
      injection L with e1;exact .inr ⟨r,e1⟩
     rw[Qi];rcases ck with ⟨rfl,rfl⟩|⟨r,rfl⟩
     ·have ae:U (Ed f (ns.take (a+1))=d++[nd]):=V (by rw[ao.q,Qbk]);clear E M;go_wp2_with (at_builtin;refine wpList_append_own_none I _ _ 22 I w 36 i0 5 underlying22 ap (.slice (some ⟨g,0,none⟩) (d.length+1) K) (d.length+1) (Ck (d++[nd])) I P.q I ?_)
      go_roundw
      case rel=>exact⟨a+1,some ⟨g,0,none⟩,K,Z,by go_num,by rw[ae.q,Qa];rfl,V ⟨by
       rw[ae.q];unfold Bl;rw[Qa];exact P.q,ay.q⟩⟩
      case measure=>exact Sj
     have ae:U (Ed f (ns.take (a+1))=d++[nd]):=V (by rw[ao.q,Qbk]);clear E M;go_wp2_with (at_builtin;refine wpList_append_own_at _ I _ _ 22 I w 36 i0 (.agg #[O,O,O,(),()]) 5 56 underlying22 ap a8 a9 ba I Z (.slice (some ⟨g,0,none⟩) (d.length+1) K) (d.length+1) (Ck (d++[nd])) I P.q ⟨r,0,none⟩ 0 av [] I I (λj h W=>by simp at W) (λh W=>by simp at W) (by unfold maxLen;omega) Z Z ?_)
     intro di bg Q af c1 ax;have c6:∃C z,di=.slice (some ⟨C,0,none⟩) (d.length+1) z:=by
      rcases Q.2 with ⟨_,ch⟩|⟨C,z,dn,L,_⟩
      ·omega
      exact⟨C,z,L⟩
     obtain⟨C,z,rfl⟩:=c6;have az:U (Below w w bg):=V (Sqi ay.q af Z (λai ag=>(P.q.lt ai ag).1));have a7:=V Q;clear Q af c1 ax;go_wp2;go_roundw
     case rel=>exact⟨a+1,some ⟨C,0,none⟩,z,Z,by go_num,by rw[ae.q,Qa];rfl,V ⟨by
      rw[ae.q];unfold Bl;rw[Qa];exact a7.q,az.q⟩⟩
     case measure=>exact Sj
    have bj:0<k.length:=Qbf.2 bi;obtain⟨r,rfl,dx,dv,_⟩:=Bl.some E bj;have c0:U (∀j h,(Ck k)[j]?=some h->aj.cell? ((⟨r,0,none⟩:Addr).add j)=some h):=V (λj h F=>World.ownsRow.cells E (g:=r) rfl j h F);have cu:(Ck k).length=k.length*5:=E.1;have c3:U (∀h∈Ck k,h.oneCell'=true):=V (zn4 k);clear E M;go_wp2_with (at_builtin;refine wpList_append_lies _ I _ _ 22 I w 36 i0 (.agg #[O,O,O,(),()]) 5 56 underlying22 ap a8 a9 ba I Z (.slice (some ⟨g,0,none⟩) (d.length+1) K) (d.length+1) (Ck (d++[nd])) I P.q ⟨r,0,none⟩ k.length av (Ck k) I cu c0.q c3.q bj (by unfold maxLen;omega) Z Z aj rfl ?_)
    intro C z bg Q af ax cx;have az:U (Below w w bg):=V (Sqi ay.q af Z (λai ag=>(P.q.lt ai ag).1));have a7:=V Q;clear Q af ax cx;go_wp2;go_roundw
    case rel=>exact⟨a+1,some ⟨C,0,none⟩,z,Z,by go_num,by rw[ao.q,Qa,Qa];rfl,V ⟨by
     rw[ao.q];unfold Bl;rw[zm4,Qa,Qa];exact a7.q,az.q⟩⟩
    case measure=>exact Sj
   have ct:a=ns.length:=Z;subst ct;rw[Qbl]at s ⊢;go_wp2;go_ret;exact⟨o,q,rfl,s.q.1,s.q.2⟩
theorem zmr (w:Sw):Calls prog 47 #[Sx] w λe a=>e=.returned (.tuple #[Sx,false])/\w=a:=by
 go_enter func47,ntmps47;go_wp2;refine wp_loop_rounds 1 ?_;rw[rounds_succ];go_wp2;go_ret2;exact⟨rfl,rfl⟩
theorem zb2 (a:List ByteArray):tot a=S.tt (dat a):=by
 rw[NA];generalize dat a=d;induction d with
 |nil=>rfl
 |cons g d f=>rw[Qs,SK,S.Ho,f]
theorem DX (s:Sb)(w:Sw)(aa:s.size<=1500)(d:List Ln)(a:So)(m B:Nat)(hd:Ah d=S.Aw s)(K:Num 0 d)(t:w.ownsRow B 116 2 (.slice a d.length m) d.length (Ja d)):Calls prog 47 #[.slice a d.length m] w λe h=>∃(j:So) (l k:Nat) (g:Bool) (f:List Rn),e=.returned (.tuple #[.slice j l k,g])/\U (Bv h (λx=>x<h) (.slice j l k) f/\Bb (λs f=>Dn s [] 0 f) 0 (S.Ag (s.size+1) (S.Aw s)).1 f/\Below w w h):=by
 have v:tot (Cu d)<=1000000:=by
  rw[zb2];show S.tt (Ah d)<=_;rw[hd];have:=S.L8 s;rw[S.lda]at this;omega
 rcases t.2 with ⟨p,r⟩|⟨g,N,P,p,r,z,A,R,T,W⟩
 ·have o:d=[]:=Qbg.1 r;subst o;injection p with e1 e2 e3
  subst e1 e3;have H:S.Aw s=[]:=by rw[<-hd];rfl
  refine(zmr w).mono ?_;rintro e h⟨rfl,rfl⟩;refine⟨none,0,0,false,[],rfl,V ⟨.nil,?_,Sr⟩⟩;rw[H];exact trivial
 injection p with e1 e2 e3
 subst e1 e3;have G:=(Qq.1 z).1;have q:Fz w g 0 d:=by
  by_cases L:0<d.length
  ·obtain⟨Q,F,_,_,_,q⟩:=Z0 t v L;cases F;exact q
  have o:d=[]:=Qbg.1 Z;subst o;exact⟨λi ab y=>by simp at y,v⟩
 have D:bytes (Ah d)<s.size+1:=by
  rw[hd];have:=S.JW s;rw[S.lda]at this;omega
 refine(YM (s.size+1) g 0 m d 0 w A G q K D).mono ?_;rintro e h⟨ac,f,rfl,u,C,E⟩;obtain⟨j,l,k,rfl⟩:=u.form;exact⟨j,l,k,_,f,rfl,V ⟨u.move (λx M=>M.2) (λ_ _=>rfl),by rw[<-hd];exact C.q,E⟩⟩
theorem zey (s:Sb)(w:Sw)(G:s.size<=1500):Calls prog 15 #[s] w λe t=>∃(B:Nat) (f:So) (g:Nat) (a:List Rn),e=.returned (.tuple #[.slice f (Ed 0 a).length g,O])/\U (w.heap.size<=B/\Bl B f g (Ed 0 a) t/\Below w w t/\Bb (λs a=>Dn s [] 0 a) 0 (S.Ag (s.size+1) (S.Aw s)).1 a):=by
 have D:=V (DK s w Z);have M:¬(1500:Int)<(s.size:Int):=Z;go_enter func15,ntmps15;go_wp2_with fail
 apply D.m;rintro e l⟨K,x,y,rfl,k,q,j⟩;have A:=V (DX s l G K x y w k.q.1 k.q.2 q);have E:=V j;have H:=j.size;clear q j k;go_wp2_with fail
 apply A.m;rintro e d⟨P,R,Q,L,a,rfl,h⟩;have N:=h.q.2.2.size;have r:=zfn s (s.size+1) 0 a h.q.2.1;rw[S.lda]at r;have m:=zj9 (λv=>v<d) d (λv z=>z) _ a h.q.1 d 0 Sr Z;have C:=V m;clear m r;go_wp2_with fail
 apply C.m;rintro e u⟨f,g,rfl,p,o⟩;have F:U (w.heap.size<=d.heap.size/\Bl d f g (Ed 0 a) u/\Below w w u/\Bb (λs a=>Dn s [] 0 a) 0 (S.Ag (s.size+1) (S.Aw s)).1 a):=
  V ⟨Z,p,E.q.trans ((h.q.2.2.mono H).trans (o.mono Z)),h.q.2.1⟩
 clear p o;go_wp2;go_ret2;exact⟨d,f,g,a,rfl,F⟩
theorem zmz (s:Sb)(w:Sw)(d:1500<s.size):Calls prog 15 #[s] w λe a=>e=.returned (.tuple #[Sx,(1:Int)])/\w=a:=by
 have f:(1500:Int)<(s.size:Int):=Z;go_enter func15,ntmps15;go_wp2;go_ret2;exact⟨rfl,rfl⟩
theorem GN (H K:Nat)(o q:So)(x y:Nat)(l:List Nd)(w:Sw)(F:Bl H o x l w)(G:Bl K q y l w)(ah:l.length<=1000000):Calls prog 16 #[.slice o l.length x,.slice q l.length y] w λe T=>e=.returned true/\Below w w T:=by
 have L:=V F;have M:=V G;clear F G;go_enter func16,ntmps16;go_wp2;go_loopw [5] (λi wr=>∃a:Nat,a<=l.length/\i=.int .i64 a/\Below w w wr) (λi _=>l.length-(intOf i).toNat)
 case atStart=>exact⟨0,Qt _,rfl,Sr⟩
 case round=>
  obtain⟨a,ag,rfl,f⟩:=hrel;by_cases R:a<l.length
  ·obtain⟨g,k⟩:∃g,l[a]?=some g:=⟨l[a],Qg R⟩;obtain⟨W,rfl,ab,P,r,s,t,u,v⟩:=Z7 L.q a g k;obtain⟨aa,rfl,ac,Q,z,A,C,D,E⟩:=Z7 M.q a g k;obtain⟨ai,ak,al,aj,am⟩:=g;have m:∀d h,d<w.heap.size->wr.cell? ⟨d,h,none⟩=w.cell? ⟨d,h,none⟩:=λd h N=>f.cell (p:=⟨d,h,none⟩) N;rw[<-m _ _ P]at r s t u v;rw[<-m _ _ Q]at z A C D E;dsimp only at r s t u v z A C D E;have af:(a:Int)<(l.length:Int):=Z;have ae:(0:Int)<=(a:Int):=Z;have j:=V f;clear f m k;go_wp2_with (fail);go_region
   go_wp2;go_roundw
   case rel=>exact⟨a+1,Z,by go_num,j.q.drew⟩
   case measure=>exact Sj
  obtain rfl:a=l.length:=Z;have j:=V f;clear f;go_wp2;go_ret;exact⟨rfl,j.q⟩
theorem Ov (z:Int)(w:Sw):Calls prog 19 #[z] w λe a=>e=.returned z/\w=a:=by
 go_enter func19,ntmps19;go_wp2;go_ret;exact⟨rfl,rfl⟩
theorem zhi (s:Sb)(w:Sw)(d:1500<s.size):Calls prog 14 #[s] w λe a=>e=.returned (.tuple #[Sx,(1:Int)])/\w=a:=by
 have f:(1500:Int)<(s.size:Int):=Z;go_enter func14,ntmps14;go_wp2;go_ret2;exact⟨rfl,rfl⟩
theorem zjg (w:Sw)(l:List Nd)(n:Nat)(d:n=l.length)(h:l.length<=1000):Bl w (some w) n l (w.alloc (.cells (Ck l).toArray 36)):=by
 have a:(Ck l).length=l.length*5:=by
  clear d h;induction l with
  |nil=>rfl
  |cons g f j=>
   have e:Ck (g::f)=Cg g++Ck f:=by simp[Ck]
   rw[e,Qa,j,Qd];simp[Cg];omega
 subst d;refine⟨a,.inr ⟨w,l.length,_,rfl,Qc _,Ak _ _,Qc _,by unfold maxLen;omega,by simpa using a,?_⟩⟩;rw[<-a];simp
