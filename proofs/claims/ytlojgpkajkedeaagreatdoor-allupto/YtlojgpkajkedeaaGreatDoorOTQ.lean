import Derived.Test.YtlojgpkajkedeaaGreatDoorOTH
set_option maxHeartbeats 0
set_option maxRecDepth 100000
namespace Go.Proofs.YtlojgpkajkedeaaGreatDoor
open Go.RowKit Go.Proofs.Tryz
mutual
def Hr:Pt->Rn
 |.mk a i f Ab _ _ _=>.nd a 0 i f 0 (Dh Ab)
def Dh:List Pt->List Rn
 |[]=>[]
 |p::d=>Hr p::Dh d
end
theorem FH (p:Pt)(r:List Pt):Dh (p::r)=Hr p::Dh r:=by simp only[Dh]
theorem FX (p:Pt):Hr p=.nd p.kind 0 p.info p.text 0 (Dh p.Ab):=by cases p;simp only[Hr];rfl
inductive Am where
 |b (c:UInt8)
 |run (c:UInt8) (left n:Nat) (op cl:Bool)
 |nd (n:Rn)
def Iu:List Am->List UInt8->List Rn
 |[],a=>Ma a
 |.b c::d,a=>Iu d (a++[c])
 |.run c left _ _ _::d,a=>Iu d (a++List.replicate left c)
 |.nd n::d,a=>Ma a++n::Iu d []
def Jb (c:UInt8)(left n:Nat)(d a:Bool):List Am:=if left=0 then []else if d=false/\a=false then List.replicate left (.b c)else [.run c left n d a]
theorem FE (a:List UInt8)(r:List Am)(t:List UInt8):Iu (a.map Am.b++r) t=Iu r (t++a):=by
 induction a generalizing t with
 |nil=>simp
 |cons c a d=>simp only[Qs,List.cons_append,Iu];rw[d];simp
theorem WJ (c:UInt8)(left n:Nat)(f a:Bool)(r:List Am)(t:List UInt8):Iu (Jb c left n f a++r) t=Iu r (t++List.replicate left c):=by
 unfold Jb;split
 ·rename_i d;subst d;simp
 split
 ·rw[<-List.map_replicate,FE]
 rfl
def Ib (p:Af):List Am:=if p.what=1 then [.nd p.node]else p.s.map Am.b++Jb p.c p.left p.n p.op p.cl
def Fy (l:List Af):List Am:=l.flatMap Ib
theorem Us (a b:List Af):Fy (a++b)=Fy a++Fy b:=by simp[Fy]
theorem Og (p:Af)(r:List Af):Fy (p::r)=Ib p++Fy r:=by simp[Fy]
theorem Yu:Fy []=[]:=rfl
theorem RY (l:List Af)(t:List UInt8):F8 l t=Iu (Fy l) t:=by
 induction l generalizing t with
 |nil=>rfl
 |cons d f a=>
  simp only[F8];rw[Og];unfold Ib;split
  ·rw[a];rfl
  rw[a,Qp (d.s.map Am.b),FE,WJ]
def Ot (p:Af):Prop:=(p.what=2/\p.s=[])\/p.what=1\/(p.what≠1/\p.what≠2/\p.left=0)
def Gn (p:Pt):List Am:=if p.kind=8 then (if p.ro=false/\p.rc=false then p.text.map Am.b else Jb (p.text.headD 0) p.text.length p.rs p.ro p.rc)else [.nd (Hr p)]
def Fv (l:List Pt):List Am:=l.flatMap Gn
theorem Uq (a b:List Pt):Fv (a++b)=Fv a++Fv b:=by simp[Fv]
theorem Nz (p:Pt)(r:List Pt):Fv (p::r)=Gn p++Fv r:=by simp[Fv]
theorem ML:Fv []=[]:=rfl
theorem Te (p:Pt):Fv [p]=Gn p:=by simp[Fv]
def Lc (p:Pt):Prop:=(p.kind=8/\p.info=[]/\p.Ab=[]/\((p.ro=false/\p.rc=false)\/∃c,p.text=List.replicate p.text.length c))\/(¬p.kind=8/\p.ro=false/\p.rc=false)
def Gh (l:List Pt):Prop:=∀a∈l,Lc a
theorem ND (p:Pt)(a:Lc p)(d:p.kind=8)(r:List Am)(t:List UInt8):Iu (Gn p++r) t=Iu r (t++p.text):=by
 unfold Gn;rw[if_pos d];rcases a with ⟨_,_,_,a⟩|⟨a,_⟩
 ·split
  ·exact FE _ _ _
  rename_i f;rcases a with a|⟨c,a⟩
  ·exact absurd a f
  rw[WJ];congr 2
  rw[a];cases p.text.length with
  |zero=>rfl
  |succ n=>simp[List.replicate_succ]
 exact absurd d a
theorem zbe (f:Nat):(∀a:List Pt,a.length<=f->Gh a->Dh (D8 f a)=Iu (Fv a) []) /\
  (∀(d:Pt) (a:List Pt),a.length+1<=f->d.kind=8->d.info=[]->d.Ab=[]->Gh a->Dh (D8 f (d::a))=Iu (Fv a) d.text):=by
 induction f with
 |zero=>
  refine⟨λa h _=>?_,λd a h=>Z⟩;have:a=[]:=Qbg.1 Z;subst this;rfl
 |succ f o=>
  have x:∀(d:Pt) (a:List Pt),a.length+1<=f+1->d.kind=8->d.info=[]->d.Ab=[]->Gh a->Dh (D8 (f+1) (d::a))=Iu (Fv a) d.text:=by
   intro d a h g D E j;simp only[D8];rw[if_pos g];have z:Hr d=.nd 8 0 [] d.text 0 []:=by rw[FX,g,D,E];simp only[Dh]
   split
   ·rename_i s;rw[s];exact o.1 a Z j
   rename_i s;have y:Ma d.text=[.nd 8 0 [] d.text 0 []]:=by unfold Ma;rw[if_neg s]
   cases a with
   |nil=>
    rw[FH,z];simp only[ML,Iu,Dh];exact y.symm
   |cons l u=>
    have C:=j l (Qx ..);have m:Gh u:=λv t=>j v (Qo _ t);dsimp only;rw[Nz];split
    ·rename_i k;rw[ND l C k];have F:=C;rcases F with ⟨_,q,r,_⟩|⟨p,_⟩
     ·rw[o.2 (l.Au (d.text++l.text)) u (by simpa using h) k q r m];rfl
     exact absurd k p
    rename_i k;rw[FH,o.1 (l::u) (by simpa using h) j,Nz];unfold Gn;rw[if_neg k,z];simp only[List.singleton_append,Iu];rw[y];rfl
  refine⟨λa h j=>?_,x⟩;cases a with
  |nil=>rfl
  |cons d a=>
   have A:=j d (Qx ..);have m:Gh a:=λv t=>j v (Qo _ t);by_cases g:d.kind=8
   ·have G:=A;rcases G with ⟨_,q,r,_⟩|⟨p,_⟩
    ·rw[x d a (by simpa using h) g q r m,Nz,ND d A g];rfl
    exact absurd g p
   rw[XL f d a g,FH,o.1 a (by simpa using h) m,Nz];unfold Gn;rw[if_neg g];rfl
theorem MN (l:List Pt)(a:Gh l):Dh (F7 l)=Iu (Fv l) []:=(zbe l.length).1 l (Qc _) a
def Vz:Am->Bool
 |.run _ _ _ _ a=>a
 |_=>false
def Ui (s p:Am):Bool:=match s,p with
 |.run f _ g h _,.run c _ n d a=>d&&(decide (c=f)&&S.fits n a g h)
 |_,_=>false
def Ie (s:Am):List Am->Option (List Am×Am×List Am)
 |[]=>none
 |p::a=>match Ie s a with
  |some (d,g,f)=>some (p::d,g,f)
  |none=>if Ui s p=true then some ([],p,a)else none
def CZ:Am->Nat
 |.run _ left _ _ _=>left
 |_=>0
def zA (a s:Am):Nat:=if 1<CZ a/\1<CZ s then 2 else 1
def Wl (z:Nat):Am->List Am
 |.run c left n f d=>Jb c (left-z) n f d
 |a=>[a]
def Vn (z:Nat)(m:List Am):Am:=.nd (.nd (if z=2 then 15 else 14) 0 [] [] 0 (Iu m []))
inductive PA:List Am->List Am->List Am->Prop
 |done (L:List Am):PA L [] L
 |pass (L:List Am) (a:Am) (r res:List Am) (h:Vz a=false\/Ie a L=none) (hr:PA (L++[a]) r res):PA L (a::r) res
 |pair (L:List Am) (a:Am) (r res l1:List Am) (x:Am) (m:List Am) (hc:Vz a=true) (h:Ie a L=some (l1,x,m)) (hr:PA (l1++Wl (zA x a) x++[Vn (zA x a) m]) (Wl (zA x a) a++r) res):PA L (a::r) res
theorem PA.det {L r g l:List Am}(d:PA L r g)(h:PA L r l):g=l:=by
 induction d with
 |done L=>cases h;rfl
 |pass L m r g d o k=>
  cases h with
  |pass _ _ _ _ _ f=>exact k f
  |pair _ _ _ _ p s q j a f=>
   rcases d with d|d
   ·rw[j]at d;cases d
   rw[d]at a;cases a
 |pair L m r g p s q j d o k=>
  cases h with
  |pass _ _ _ _ a f=>
   rcases a with a|a
   ·rw[j]at a;cases a
   rw[d]at a;cases a
  |pair _ _ _ _ u x v t a f=>
   rw[d]at a;cases a
   exact k f
theorem PA.passes (a:List Am)(L r f:List Am)(g:∀d∈a,Vz d=false)(h:PA (L++a) r f):PA L (a++r) f:=by
 induction a generalizing L with
 |nil=>simpa using h
 |cons d a k=>
  refine PA.pass L d _ f (.inl (g d (Qx ..))) (k _ (λl j=>g l (Qo _ j)) ?_);rw[Qp];exact h
theorem NT (s:Am)(l:List Am)(d:∀a∈l,Ui s a=false):Ie s l=none:=by
 induction l with
 |nil=>rfl
 |cons h j g=>simp only[Ie];rw[g (λa f=>d a (Qo _ f))];simp[d h (List.mem_cons_self ..)]
theorem MR (s:Am)(a b d m:List Am)(f:Am)(g:Ie s b=some (d,f,m)):Ie s (a++b)=some (a++d,f,m):=by
 induction a with
 |nil=>exact g
 |cons j k h=>simp only[List.cons_append,Ie];rw[h]
theorem NC (s:Am)(a b:List Am)(f:Ie s b=none):Ie s (a++b)=(Ie s a).map (λd=>(d.1,d.2.1,d.2.2++b)):=by
 induction a with
 |nil=>simp[Ie,f]
 |cons m h g=>
  simp only[List.cons_append,Ie];rw[g];cases j:Ie s h with
  |none=>
   simp only[Option.map_none];split<;>rfl
  |some d=>obtain⟨k,o,l⟩:=d;rfl
theorem GR (s:Am)(c:UInt8):Ui s (.b c)=false:=by cases s<;>rfl
theorem JR (s:Am)(n:Rn):Ui s (.nd n)=false:=by cases s<;>rfl
theorem Yn (c:UInt8)(left n:Nat)(f d:Bool)(j:0<left)(a:f=true\/d=true):Jb c left n f d=[.run c left n f d]:=by
 unfold Jb;rw[if_neg Z,if_neg];rintro⟨g,h⟩;rcases a with a|a
 ·rw[g]at a;cases a
 rw[h]at a;cases a
theorem Uw (c:UInt8)(n:Nat)(d a:Bool):Jb c 0 n d a=[]:=by unfold Jb;rw[if_pos rfl]
theorem NP (c:UInt8)(left n:Nat)(f:Bool):∀d∈Jb c left n f false,Vz d=false:=by
 intro d a;unfold Jb at a;split at a
 ·simp at a
 split at a
 ·rw[List.mem_replicate]at a;rw[a.2];rfl
 simp at a;rw[a];rfl
theorem RU (f:List UInt8):∀a∈f.map Am.b,Vz a=false:=by
 intro a d;rw[List.mem_map]at d;obtain⟨c,_,rfl⟩:=d;rfl
theorem KC (a s:Af)(d:a.op=true)(f:s.cl=true):Va a s=S.fits a.n a.cl s.n s.op:=by
 unfold Va S.fits;rw[d,f];cases a.cl<;>cases s.op<;>simp[Bool.or_comm]
theorem zal (a s:Af)(o:Ot a)(q:s.cl=true)(c:UInt8)(k:s.c=c)(left n:Nat)(h:Bool)(l:s.n=n)(m:s.op=h):Ie (.run c left n h true) (Ib a)=if Ml a s=true then some ([],.run a.c a.left a.n a.op a.cl,[])else none:=by
 by_cases g:Ml a s=true
 ·rw[if_pos g];unfold Ml at g;simp only[Bool.and_eq_true,decide_eq_true_iff]at g;obtain⟨⟨⟨⟨r,t⟩,j⟩,u⟩,v⟩:=g;have A:a.s=[]:=by
   rcases o with f|f|f
   ·exact f.2
   ·omega
   exact absurd r f.2.1
  unfold Ib;rw[if_neg Z,A,Yn _ _ _ _ _ u (.inl j)];have z:Ui (.run c left n h true) (.run a.c a.left a.n a.op a.cl)=true:=by
   show (a.op&&(decide (a.c=c)&&S.fits a.n a.cl n h))=true;rw[<-l,<-m,<-KC a s j q,v,j,t,k];simp
  simp only[List.map_nil,List.nil_append,Ie];rw[if_pos z]
 rw[if_neg g];refine NT _ _ (λE d=>?_);unfold Ib at d;split at d
 ·simp at d;rw[d];exact JR _ _
 rename_i C;rw[Qbh]at d;rcases d with d|d
 ·rw[List.mem_map]at d;obtain⟨c,_,rfl⟩:=d;exact GR _ _
 unfold Jb at d;split at d
 ·simp at d
 rename_i x;split at d
 ·rw[List.mem_replicate]at d;rw[d.2];exact GR _ _
 simp at d;rw[d];have D:a.what=2:=by
  rcases o with f|f|f
  ·exact f.1
  ·exact absurd f C
  exact absurd f.2.2 x
 show (a.op&&(decide (a.c=c)&&S.fits a.n a.cl n h))=false;cases p:a.op with
 |false=>rfl
 |true=>
  have y:0<a.left:=Z;unfold Ml at g;rw[KC a s p q,k,l,m]at g;simp only[D,p,y,decide_true,Bool.true_and,Bool.and_true]at g;simpa using g
theorem zk8 (l:List Af)(s:Af)(p:∀t∈l,Ot t)(q:s.cl=true)(k:Nat)(v:k<=l.length):Ie (.run s.c s.left s.n s.op true) (Fy (l.take k))=match Hz l s k with
   |none=>none
   |some d=>match l[d]? with
    |some a=>some (Fy (l.take d),.run a.c a.left a.n a.op a.cl,Fy ((l.take k).drop (d+1)))
    |none=>none:=by
 induction k with
 |zero=>rfl
 |succ k r=>
  obtain⟨a,g⟩:∃a,l[k]?=some a:=⟨l[k],Qg Z⟩;have h:l.take (k+1)=l.take k++[a]:=by rw[Sv,g];rfl
  have f:=zal a s (p a (SN g)) q s.c rfl s.left s.n s.op rfl rfl;have m:Fy (l.take (k+1))=Fy (l.take k)++Ib a:=by rw[h,Us];simp[Fy]
  rw[m];simp only[Hz,g];by_cases j:Ml a s=true
  ·rw[if_pos j]at f ⊢;rw[MR _ _ _ _ _ _ f];dsimp only;rw[g,Qbk];dsimp only;rw[h,Qw (by rw[Qa,Ql,List.length_singleton];omega),Yu]
  rw[if_neg j]at f ⊢;rw[NC _ _ _ f,r Z];cases o:Hz l s k with
  |none=>rfl
  |some d=>
   have u:=(Xk l s k d o).1;dsimp only;cases x:l[d]? with
   |none=>rfl
   |some y=>
    simp only[Option.map_some];rw[h,List.drop_append_of_le_length (by rw[Ql];omega),Us];simp[Fy]
theorem KI (d:Af)(z:Nat)(a:Ot d):Ot (Ia d z):=by
 rcases a with a|a|a
 ·exact .inl a
 ·exact .inr (.inl a)
 refine .inr (.inr ⟨a.1,a.2.1,?_⟩);show d.left-z=0;omega
theorem VX (a:Af)(z:Nat)(g:a.what=2)(f:a.s=[]):Ib (Ia a z)=Wl z (.run a.c a.left a.n a.op a.cl):=by
 unfold Ib;have d:¬(Ia a z).what=1:=by show ¬a.what=1;omega
 rw[if_neg d];show a.s.map Am.b++_=_;rw[f];rfl
theorem Ii.X4 {l:List Af}{i:Nat}{ns:List Rn}(d:Ii l i ns)(P:i<=l.length)(r:∀y∈l,Ot y):∃o,PA (Fy (l.take i)) (Fy (l.drop i)) o/\ns=Iu o []:=by
 induction d with
 |done l i d=>
  refine⟨Fy l,?_,RY l []⟩;rw[Qbj d,Qw d];exact PA.done _
 |step l i ns d aa t=>
  obtain⟨a,s⟩:∃a,l[i]?=some a:=⟨l[i],Qg d⟩;have D:=r a (SN s);have hd:l.drop i=a::l.drop (i+1):=by
   rw[Qm d];congr 1
   rw[Qg d]at s;exact Qy s
  have H:Fy (l.take (i+1))=Fy (l.take i)++Ib a:=by rw[Sv,s,Us];simp[Fy]
  rw[hd,Og];by_cases k:a.what=2/\a.cl=true/\0<a.left
  ·have G:a.s=[]:=by
    rcases D with d|d|d
    ·exact d.2
    ·omega
    exact absurd k.1 d.2.1
   have z:Ib a=[.run a.c a.left a.n a.op true]:=by
    unfold Ib;rw[if_neg Z,G,k.2.1,Yn _ _ _ _ _ k.2.2 (.inr rfl)];rfl
   have q:=zk8 l a r k.2.1 i P;cases v:Hz l a i with
   |none=>
    have g:=BM l i a s (by rw[if_pos k];exact v);rw[g]at t;obtain⟨o,p,m⟩:=t d r;rw[v]at q;refine⟨o,?_,m⟩;rw[z];refine PA.pass _ _ _ _ (.inr q) ?_;rw[<-z,<-H];exact p
   |some h=>
    obtain⟨W,f,C,x⟩:=Xk l a i h v;have g:=WE l i h a f s (by rw[if_pos k];exact v) C;rw[g]at t;rw[v]at q;dsimp only at q;rw[C]at q;dsimp only at q;have K:=r f (SN C);unfold Ml at x;simp only[Bool.and_eq_true,decide_eq_true_iff]at x;have Q:f.s=[]:=by
     rcases K with d|d|d
     ·exact d.2
     ·omega
     exact absurd x.1.1.1.1 d.2.1
    have A:(l.take h).length=h:=(by rw[Ql];omega);obtain⟨o,p,m⟩:=t (by
     unfold Lh;rw[Qa,A];simp only[Qd];omega) (by
     intro y g;unfold Lh at g;rw[Qbh,Sc,Sc,Sc]at g;rcases g with g|g|g|g|g
     ·exact r y (List.mem_of_mem_take g)
     ·rw[g];exact KI f _ K
     ·rw[g];exact .inr (.inl rfl)
     ·rw[g];exact KI a _ D
     exact r y (List.mem_of_mem_drop g))
    refine⟨o,?_,m⟩;rw[z];refine PA.pair _ _ _ _ _ _ _ rfl q ?_;have T:zA (.run f.c f.left f.n f.op f.cl) (.run a.c a.left a.n a.op true)=E9 f a:=by
     unfold zA E9 CZ;dsimp only;by_cases m:2<=a.left/\2<=f.left
     ·rw[if_pos m,if_pos Z]
     rw[if_neg m,if_neg Z]
    rw[T];have L:(Lh l h i f a).take (h+2)=l.take h++[Ia f (E9 f a),C8 (Ju (E9 f a) ((l.take i).drop (h+1)))]:=by
     unfold Lh;rw[List.take_append,A,Qbj Z,show h+2-h=2 from by omega];rfl
    have M:(Lh l h i f a).drop (h+2)=Ia a (E9 f a)::l.drop (i+1):=by
     unfold Lh;rw[List.drop_append,A,Qw Z,show h+2-h=2 from by omega];rfl
    rw[L,M,Us,Og,Og,Yu,Og,VX f _ x.1.1.1.1 Q,VX a _ k.1 G]at p;have N:Ib (C8 (Ju (E9 f a) ((l.take i).drop (h+1))))=[Vn (E9 f a) (Fy ((l.take i).drop (h+1)))]:=by
     unfold Ib;rw[if_pos (show (C8 (Ju (E9 f a) ((l.take i).drop (h+1)))).what=1 from rfl)];unfold C8 Ju Vn;rw[RY]
    rw[N,k.2.1,Qbk,<-Qp]at p;exact p
  have g:=BM l i a s (by rw[if_neg k]);rw[g]at t;obtain⟨o,p,m⟩:=t d r;refine⟨o,PA.passes _ _ _ _ ?_ (by rw[<-H];exact p),m⟩;intro E j;unfold Ib at j;split at j
  ·simp at j;rw[j];rfl
  rename_i R;rw[Qbh]at j;rcases j with j|j
  ·exact RU _ E j
  rcases D with d|d|d
  ·cases F:a.cl with
   |false=>rw[F]at j;exact NP _ _ _ _ E j
   |true=>
    have u:a.left=0:=by
     rcases Nat.eq_zero_or_pos a.left with u|u
     ·exact u
     exact absurd ⟨d.1,F,u⟩ k
    rw[u,Uw]at j;simp at j
  ·exact absurd d R
  rw[d.2.2,Uw]at j;simp at j
theorem Xw (p:Pt)(d:Lc p)(a:p.ro=true\/p.rc=true)(j:p.text≠[]):Gn p=[.run (p.text.headD 0) p.text.length p.rs p.ro p.rc]:=by
 have h:p.kind=8:=by
  rcases d with d|d
  ·exact d.1
  rcases a with a|a
  ·rw[d.2.1]at a;cases a
  rw[d.2.2]at a;cases a
 unfold Gn;rw[if_pos h,if_neg,Yn _ _ _ _ _ (Qbf.2 j) a];rintro⟨f,g⟩;rcases a with a|a
 ·rw[f]at a;cases a
 rw[g]at a;cases a
theorem zgy (s a:Pt)(o:Lc a)(p:s.text≠[]):Ie (.run (s.text.headD 0) s.text.length s.rs s.ro s.rc) (Gn a)=if opens s a=true then some ([],.run (a.text.headD 0) a.text.length a.rs a.ro a.rc,[])else none:=by
 have m:∀h j:List UInt8,h≠[]->j≠[]->(h.headD 0=j.headD 0↔h.head?=j.head?):=by
  intro h j y z;cases h with
  |nil=>exact absurd rfl y
  |cons A h=>
   cases j with
   |nil=>exact absurd rfl z
   |cons b j=>simp
 by_cases f:opens s a=true
 ·rw[if_pos f];unfold opens at f;simp only[Bool.and_eq_true,decide_eq_true_iff,Bool.not_eq_true',List.isEmpty_eq_false_iff]at f;obtain⟨k,l,q,r⟩:=f;rw[Xw a o (.inl k) l];have v:Ui (.run (s.text.headD 0) s.text.length s.rs s.ro s.rc) (.run (a.text.headD 0) a.text.length a.rs a.ro a.rc)=true:=by
   show (a.ro&&(decide (a.text.headD 0=s.text.headD 0)&&S.fits a.rs a.rc s.rs s.ro))=true;rw[k,r,Sl ((m _ _ l p).2 q)];rfl
  simp only[Ie];rw[if_pos v]
 rw[if_neg f];refine NT _ _ (λC d=>?_);by_cases g:a.ro=true/\a.text≠[]
 ·rw[Xw a o (.inl g.1) g.2]at d;rw[Qbi]at d;rw[d];show (a.ro&&(decide (a.text.headD 0=s.text.headD 0)&&S.fits a.rs a.rc s.rs s.ro))=false;unfold opens at f;rw[g.1]at f ⊢;have t:a.text.isEmpty=false:=by rw[List.isEmpty_eq_false_iff];exact g.2
  rw[t]at f;have hd:decide (a.text.headD 0=s.text.headD 0)=decide (a.text.head?=s.text.head?):=decide_eq_decide.2 (m _ _ g.2 p);rw[hd];simpa using f
 unfold Gn at d;split at d
 ·split at d
  ·rw[List.mem_map]at d;obtain⟨c,_,rfl⟩:=d;exact GR _ _
  unfold Jb at d;split at d
  ·simp at d
  rename_i u;rw[Qbi]at d;rw[d];show (a.ro&&_)=false;cases x:a.ro with
  |false=>rfl
  |true=>exact absurd ⟨x,λe=>u (by rw[e];rfl)⟩ g
 simp at d;rw[d];exact JR _ _
theorem zka (s:Pt)(o:s.text≠[])(L:List Pt)(f:Gh L):Ie (.run (s.text.headD 0) s.text.length s.rs s.ro s.rc) (Fv L)=(Fw s L).map (λa=>(Fv a.1,.run (a.2.1.text.headD 0) a.2.1.text.length a.2.1.rs a.2.1.ro a.2.1.rc,Fv a.2.2)):=by
 induction L with
 |nil=>rfl
 |cons j k d=>
  have g:Gh k:=λl p=>f l (Qo _ p);have m:=zgy s j (f j (Qx ..)) o;rw[Nz];simp only[Fw];cases h:Fw s k with
  |some a=>
   obtain⟨q,l,r⟩:=a;rw[h]at d;simp only[Option.map_some]at d ⊢;rw[MR _ _ _ _ _ _ (d g),Nz]
  |none=>
   rw[h]at d;simp only[Option.map_none]at d;rw[NC _ _ _ (d g),m];dsimp only;split<;>simp[ML]
theorem zi5 {s d:Pt}(a:opens s d=true):d.ro=true/\d.text≠[]:=by
 unfold opens at a;simp only[Bool.and_eq_true,Bool.not_eq_true',List.isEmpty_eq_false_iff]at a;exact⟨a.1,a.2.1⟩
theorem zhk (s:Pt)(L f m:List Pt)(g:Pt)(a:Fw s L=some (f,g,m)):opens s g=true:=by
 induction L generalizing f with
 |nil=>simp[Fw]at a
 |cons p l k=>
  simp only[Fw]at a;cases d:Fw s l with
  |some o=>
   obtain⟨h,q,b⟩:=o;rw[d]at a;simp at a;obtain⟨_,rfl,rfl⟩:=a;exact k h d
  |none=>
   rw[d]at a;dsimp only at a;split at a
   ·rename_i j;simp at a;obtain⟨_,rfl,_⟩:=a;exact j
   cases a
theorem Vf (p:Pt)(z:Nat)(d:Lc p):Lc (p.Au (p.text.drop z)):=by
 rcases d with ⟨f,g,h,a⟩|d
 ·refine .inl ⟨f,g,h,?_⟩;rcases a with a|⟨c,a⟩
  ·exact .inl a
  refine .inr ⟨c,?_⟩;show p.text.drop z=List.replicate (p.text.drop z).length c;rw[a];simp
 exact .inr d
theorem AJ (p:Pt)(z:Nat)(o:Lc p)(a:p.ro=true\/p.rc=true):Gn (p.Au (p.text.drop z))=Wl z (.run (p.text.headD 0) p.text.length p.rs p.ro p.rc):=by
 have s:=Vf p z o;have d:(p.Au (p.text.drop z)).ro=true\/(p.Au (p.text.drop z)).rc=true:=a;have m:(p.text.drop z).length=p.text.length-z:=Qf ..;show _=Jb _ (p.text.length-z) _ _ _;by_cases g:p.text.drop z=[]
 ·have u:p.text.length-z=0:=by rw[<-m,g];rfl
  rw[u,Uw];rcases s with ⟨v,_,_,_⟩|l
  ·unfold Gn;rw[if_pos v];have y:(p.Au (p.text.drop z)).text=[]:=g;rw[y];split
   ·rfl
   exact Uw _ _ _ _
  rcases d with d|d
  ·rw[l.2.1]at d;cases d
  rw[l.2.2]at d;cases d
 rw[Xw _ s d g,Yn _ _ _ _ _ (by rw[<-m];exact Qbf.2 g) a];show [Am.run ((p.text.drop z).headD 0) (p.text.drop z).length p.rs p.ro p.rc]=_;rw[m];have x:(p.text.drop z).headD 0=p.text.headD 0:=by
  rcases o with ⟨_,_,_,f⟩|l
  ·rcases f with f|⟨c,f⟩
   ·rcases a with a|a
    ·rw[f.1]at a;cases a
    rw[f.2]at a;cases a
   have r:∀j:List UInt8,j≠[]->(∀k∈j,k=c)->j.headD 0=c:=by
    intro j A h;cases j with
    |nil=>exact absurd rfl A
    |cons t j=>exact h t (Qx ..)
   have q:∀k∈p.text,k=c:=by
    intro k h;rw[f]at h;exact(List.mem_replicate.1 h).2
   rw[r _ g (λk h=>q k (List.mem_of_mem_drop h)),r _ (λe=>g (by rw[e];simp)) q]
  rcases a with a|a
  ·rw[l.2.1]at a;cases a
  rw[l.2.2]at a;cases a
 rw[x]
theorem JI (z:Nat)(m:List Pt):Lc (La z m):=by
 refine .inr ⟨?_,rfl,rfl⟩;show ¬(if z=2 then (15:Int)else 14)=8
 split<;>decide
theorem YG (z:Nat)(m:List Pt)(a:Gh m):Gn (La z m)=[Vn z (Fv m)]:=by
 unfold Gn;rw[if_neg (by show ¬(if z=2 then (15:Int)else 14)=8;split<;>decide)]
 unfold Vn;rw[FX];show [Am.nd (.nd (if z=2 then 15 else 14) 0 [] [] 0 (Dh (F7 m)))]=_
 rw[MN m a]
theorem zdu (j:Nat)(L:List Pt)(s:Pt)(r x:List Am)(T:s.text.length<=j)(u:Gh L)(v:Lc s)(h:PA (Fv ((Dr j L s).1++[(Dr j L s).2])) r x):PA (Fv L) (Gn s++r) x:=by
 have C:(¬(s.rc=true/\s.text≠[]))->PA (Fv (L++[s])) r x->PA (Fv L) (Gn s++r) x:=by
  intro A o;rw[Uq,Te]at o;refine PA.passes _ _ _ _ (λy d=>?_) o;unfold Gn at d;split at d
  ·split at d
   ·exact RU _ y d
   cases D:s.rc with
   |false=>rw[D]at d;exact NP _ _ _ _ y d
   |true=>
    have k:=Classical.byContradiction (λe=>A ⟨D,e⟩);rw[k]at d;simp[Jb]at d
  simp at d;rw[d];rfl
 induction j generalizing L s with
 |zero=>
  have k:s.text=[]:=Qbg.1 Z;exact C (λe=>e.2 k) h
 |succ j Q=>
  by_cases f:s.rc=true/\s.text≠[]
  ·have z:=Xw s v (.inr f.1) f.2;have m:=zka s f.2 L u;cases l:Fw s L with
   |none=>
    rw[Yi _ _ _ l]at h;rw[l]at m;rw[z];refine PA.pass _ _ _ _ (.inr m) ?_;rw[Uq,Te,z]at h;exact h
   |some R=>
    obtain⟨p,a,q⟩:=R;rw[Xu j L p q s a f.1 f.2 l]at h;rw[l]at m;simp only[Option.map_some]at m;obtain⟨hcut,_⟩:=Tq s L p a q l;have M:=zi5 (zhk s L p q a l);have E:=u a (by rw[hcut];simp);have K:Gh q:=λt g=>u t (by rw[hcut];simp[g]);have H:Gh p:=λt g=>u t (by rw[hcut];simp[g]);have P:zA (.run (a.text.headD 0) a.text.length a.rs a.ro a.rc) (.run (s.text.headD 0) s.text.length s.rs s.ro s.rc)=Cm a s:=rfl;have aa:1<=Cm a s:=(by unfold Cm;split<;>omega);have G:Gh (p++[a.Au (a.text.drop (Cm a s)),La (Cm a s) q]):=by
     intro t g;rw[Qbh,Sc,Qbi]at g;rcases g with g|g|g
     ·exact H t g
     ·rw[g];exact Vf a _ E
     rw[g];exact JI _ _
    have N:=Vf s (Cm a s) v;have W:=Qbf.2 f.2;have:=Q _ _ (by show (s.text.drop _).length<=j;rw[Qf];omega) G N h (by
     intro A o;rw[Uq,Te]at o;refine PA.passes _ _ _ _ (λy d=>?_) o;rw[AJ s _ v (.inr f.1)]at d;by_cases k:s.text.drop (Cm a s)=[]
     ·have F:s.text.length-Cm a s=0:=(by rw[<-Qf,k];rfl);unfold Wl at d;dsimp only at d;rw[F,Uw]at d;simp at d
     exact absurd ⟨f.1,k⟩ A)
    rw[z];refine PA.pair _ _ _ _ _ _ _ (by show s.rc=true;exact f.1) m ?_;rw[P];rw[Uq,Nz,Te,AJ a _ E (.inl M.1),YG _ _ K,AJ s _ v (.inr f.1),<-Qp]at this;exact this
  rw[Rk _ _ _ f]at h;exact C f h
theorem zk0 (f:Nat)(L:List Pt)(s:Pt)(d:Gh L)(g:Lc s):Gh ((Dr f L s).1++[(Dr f L s).2]):=by
 have h:∀(L:List Pt) (s:Pt),Gh L->Lc s->Gh (L++[s]):=by
  intro L s l m k a;rw[Qbh,Qbi]at a;rcases a with a|a
  ·exact l k a
  rw[a];exact m
 induction f generalizing L s with
 |zero=>exact h L s d g
 |succ f p=>
  simp only[Dr];split
  ·cases o:Fw s L with
   |none=>exact h L s d g
   |some t=>
    obtain⟨q,j,r⟩:=t;dsimp only;obtain⟨hcut,_⟩:=Tq s L q j r o;refine p _ _ ?_ (Vf s _ g);intro k a;rw[Qbh,Sc,Qbi]at a;rcases a with a|a|a
    ·exact d k (by rw[hcut];simp[a])
    ·rw[a];exact Vf j _ (d j (by rw[hcut];simp))
    rw[a];exact JI _ _
  exact h L s d g
theorem zme (L r:List Pt)(d:Gh L)(g:Gh r):PA (Fv L) (Fv r) (Fv (Ic L r))/\Gh (Ic L r):=by
 induction r generalizing L with
 |nil=>exact⟨PA.done _,d⟩
 |cons a r l=>
  have h:=g a (Qx ..);have j:Gh r:=λm k=>g m (Qo _ k);have f:=l ((Dr a.text.length L a).1++[(Dr a.text.length L a).2]) (zk0 _ L a d h) j;simp only[Ic];rw[Nz];exact⟨zdu _ L a _ _ (Qc _) d h f.1,f.2⟩
theorem VA (l:List Af)(ps:List Pt)(ns:List Rn)(f:Fy l=Fv ps)(h:∀o∈l,Ot o)(k:Gh ps)(j:Ii l 0 ns):ns=Dh (He ps):=by
 obtain⟨p,a,g⟩:=j.X4 (Qt _) h;have d:=zme [] ps (λq m=>by simp at m) k;rw[List.take_zero,List.drop_zero,f]at a;have:=a.det d.1;rw[g,this];unfold He pairT;rw[MN _ d.2]
theorem IL (l:List UInt8)(a:10∉l):Gj l=l:=by
 unfold Gj;induction l with
 |nil=>rfl
 |cons b g f=>
  have d:b≠10:=λe=>a (by rw[e];exact Qx ..);rw[Qs,if_neg d,f (λe=>a (Qo _ e))]
theorem zmp (k:Nat)(l:List UInt8)(p:l.count 10<=k):Lib.replaceK [10] [32] k l=Gj l:=by
 induction k generalizing l with
 |zero=>exact(IL l (List.count_eq_zero.1 Z)).symm
 |succ k t=>
  unfold Lib.replaceK;have v:=Lib.indexByte_ge l 10;rw[Lib.index_one];split
  ·rename_i d;have d:Lib.indexByte l 10 = -1:=by simpa using d
   refine(IL l ?_).symm;intro h;obtain⟨a,f⟩:=List.mem_iff_getElem?.1 h;exact absurd f (Lib.indexByte_none d a)
  rename_i d;have x:¬Lib.indexByte l 10 = -1:=by simpa using d
  obtain⟨a,f⟩:∃a:Nat,Lib.indexByte l 10=a:=⟨(Lib.indexByte l 10).toNat,Z⟩;have j:=Lib.indexByte_some f;have m:=(Qb.1 j.1).1;have o:l=l.take a++10::l.drop (a+1):=by
   conv=>lhs;rw[<-Sy a l]
   rw[Qm m];have:=j.1;rw[Qg m]at this;rw[Qy this]
  have s:10∉l.take a:=by
   intro h;obtain⟨u,g⟩:=List.mem_iff_getElem?.1 h;have r:=(Qb.1 g).1;rw[Ql]at r;rw[Qbe Z]at g;exact j.2 u Z g
  have q:(l.drop (a+1)).count 10<=k:=by
   rw[o,List.count_append,List.count_cons_self]at p;omega
  rw[f];show l.take a++[32]++Lib.replaceK [10] [32] k (l.drop (a+1))=_;rw[t _ q];conv=>rhs;rw[o]
  unfold Gj;rw[Qv,Qs,if_pos rfl];have:=IL _ s;unfold Gj at this;rw[this];simp
theorem zab (l:List UInt8):Lib.replaceAll l [10] [32]=Gj l:=by
 unfold Lib.replaceAll Lib.replace;rw[if_neg J];refine zmp _ l ?_;unfold Lib.replaceNum;rw[if_pos (.inl J),Lib.count_one];exact Qc _
theorem WB (l:List UInt8)(c:UInt8):Lib.hasSuffix l [c]=true↔l[l.length-1]?=some c:=by
 unfold Lib.hasSuffix;rw[List.isSuffixOf_iff_suffix];constructor
 ·rintro⟨d,rfl⟩;simp
 intro a;rcases List.eq_nil_or_concat l with rfl|⟨d,b,rfl⟩
 ·simp at a
 simp at a;subst a;exact⟨d,Y⟩
theorem dropWhile_nil {α:Type}(p : α->Bool)(l:List α)(d:l.dropWhile p=[]):∀f∈l,p f=true:=by
 induction l with
 |nil=>intro f a;simp at a
 |cons j k h=>
  rw[List.dropWhile_cons]at d;split at d
  ·rename_i g;intro f a;rcases Sc.1 a with a|a
   ·rw[a];exact g
   exact h d f a
  cases d
theorem MB (l:List UInt8):Lib.trimB l 32=[]↔S.Ar l=true:=by
 rw[<-S.P7];unfold S.Ar S.Ap;rw[Sd];have g:=S.Yp 32 l;constructor
 ·intro a;apply Classical.byContradiction
  intro h;have f:S.cnt 32 l<l.length:=Z;have d:=GZ 32 l;unfold Lib.trimRightB at a;rw[List.reverse_eq_nil_iff]at a;have:=dropWhile_nil _ _ a l[S.cnt 32 l] (by
   rw[List.mem_reverse,Qm f];exact Qx ..)
  rw[Qg f]at d;exact d (by rw[Sqb.1 this])
 intro a;rw[a,List.drop_length];rfl
theorem zbp (l:List UInt8):Nj l=S.Ip l:=by
 unfold Nj S.Ip;rw[zab];dsimp only;by_cases a:(Lib.hasPrefix (Gj l) [32]&&Lib.hasSuffix (Gj l) [32])=true/\Lib.trimB (Gj l) 32≠[]
 ·rw[if_pos a];have d:=a.1;rw[SE,Kw,WB]at d;have f:=TP a.2 (by have:=a.1;rw[SE]at this;exact this.1);rw[if_pos];refine⟨Z,d.1,d.2,?_⟩;cases h:S.Ar (Gj l) with
  |false=>rfl
  |true=>exact absurd ((MB _).2 h) a.2
 rw[if_neg a,if_neg];rintro⟨_,d,f,g⟩;refine a ⟨by rw[SE,Kw,WB];exact⟨d,f⟩,λe=>?_⟩;rw[MB,g]at e;cases e
def D7 (l:List Af)(d:List UInt8):Prop:=(∀a∈l,a.what=0/\a.left=0)/\(l.map Af.s).flatten=d
theorem D7.nil:D7 [] []:=⟨Y,rfl⟩
theorem D7.append {a b:List Af}{j v:List UInt8}(f:D7 a j)(g:D7 b v):D7 (a++b) (j++v):=by
 refine⟨λh d=>?_,by rw[Qv,List.flatten_append,f.2,g.2]⟩;rw[Qbh]at d;rcases d with d|d
 ·exact f.1 h d
 exact g.1 h d
theorem D7.one (v:List UInt8):D7 [Cn v] v:=⟨λd a=>by rw[Qbi]at a;subst a;exact⟨rfl,rfl⟩,by simp[Cn]⟩
theorem KG (p:Af)(a:p.what≠1)(d:p.left=0):Ib p=p.s.map Am.b:=by
 unfold Ib;rw[if_neg a,d,Uw,Qbk]
theorem D7.X4 {l:List Af}{f:List UInt8}(g:D7 l f):Fy l=f.map Am.b:=by
 obtain⟨a,rfl⟩:=g;induction l with
 |nil=>rfl
 |cons d o k=>
  have h:=a d (Qx ..);rw[Og,k (λm j=>a m (Qo _ j)),KG d Z h.2];simp
theorem LZ (a:List UInt8):Gn (Db a)=a.map Am.b:=by
 unfold Gn;rw[if_pos (show (Db a).kind=8 from rfl),if_pos (show (Db a).ro=false/\(Db a).rc=false from⟨rfl,rfl⟩)];rfl
theorem JO (a:List UInt8):Lc (Db a):=.inl ⟨rfl,rfl,rfl,.inl ⟨rfl,rfl⟩⟩
def Sg (l:List Af)(ps:List Pt):Prop:=(∀a∈l,a.what≠3)/\(∀a∈l,Ot a)/\Gh ps/\Fy l=Fv ps
theorem Sg.nil:Sg [] []:=⟨Y,Y,λd a=>by simp at a,rfl⟩
theorem Sg.append {a b:List Af}{j k:List Pt}(g:Sg a j)(h:Sg b k):Sg (a++b) (j++k):=by
 refine⟨λf d=>?_,λf d=>?_,λf d=>?_,by rw[Us,Uq,g.2.2.2,h.2.2.2]⟩;·rw[Qbh]at d;exact d.elim (g.1 f) (h.1 f)
 ·rw[Qbh]at d;exact d.elim (g.2.1 f) (h.2.1 f)
 rw[Qbh]at d;exact d.elim (g.2.2.1 f) (h.2.2.1 f)
theorem D7.wf {l:List Af}{g:List UInt8}(f:D7 l g):(∀a∈l,a.what≠3)/\(∀a∈l,Ot a):=
 ⟨λa d=>by have:=(f.1 a d).1;omega,λa d=>.inr (.inr ⟨by have:=(f.1 a d).1;omega,by have:=(f.1 a d).1;omega,(f.1 a d).2⟩)⟩
theorem D7.seg {l:List Af}{d:List UInt8}(a:D7 l d):Sg l [Db d]:=
 ⟨a.wf.1,a.wf.2,λg f=>by rw[Qbi]at f;subst f;exact JO d,by rw[a.X4,Te,LZ]⟩
theorem D7.skip {l:List Af}{f:Sb}{d k:Nat}(a:D7 l ((f.data.toList.drop d).take (k-d))):Sg l (D6 f d k):=by
 unfold D6;split
 ·exact a.seg
 rename_i h;rw[show k-d=0 from Z,List.take_zero]at a;exact⟨a.wf.1,a.wf.2,λj g=>by simp at g,by rw[a.X4];rfl⟩
theorem Sg.node (n:Rn)(p:Pt)(d:¬p.kind=8)(f:p.ro=false/\p.rc=false)(h:Hr p=n):Sg [C8 n] [p]:=by
 refine⟨λg a=>?_,λg a=>?_,λg a=>?_,?_⟩;·rw[Qbi]at a;subst a;simp[C8]
 ·rw[Qbi]at a;subst a;exact .inr (.inl rfl)
 ·rw[Qbi]at a;subst a;exact .inr ⟨d,f.1,f.2⟩
 rw[Te,Og,Yu,Qbk];unfold Ib Gn;rw[if_pos (show (C8 n).what=1 from rfl),if_neg d,h];rfl
inductive Br:List Af->List Pt->List Bj->Prop
 |base (l:List Af) (ps:List Pt) (h:Sg l ps):Br l ps []
 |opn (l:List Af) (ps:List Pt) (os:List Bj) (q:Af) (l2:List Af) (ps2:List Pt) (h:Br l ps os) (hq:q.what=3/\q.left=0) (h2:Sg l2 ps2):Br (l++q::l2) (ps++Db q.s::ps2) (os++[⟨ps.length,q.im,q.dead⟩])
theorem Br.ext {l:List Af}{ps:List Pt}{d:List Bj}(a:Br l ps d){g:List Af}{h:List Pt}(f:Sg g h):Br (l++g) (ps++h) d:=by
 cases a with
 |base _ _ a=>exact .base _ _ (a.append f)
 |opn j p d o b q a m k=>
  rw[Qp,Qp,SB,SB];exact .opn j p d o _ _ a m (k.append f)
theorem Br.all {l:List Af}{ps:List Pt}{k:List Bj}(f:Br l ps k):(∀d∈l,Ot d)/\Gh ps/\Fy l=Fv ps:=by
 induction f with
 |base l ps f=>exact f.2
 |opn o p k m b q f j g h=>
  refine⟨λd a=>?_,λd a=>?_,?_⟩
  ·rw[Qbh,Sc]at a;rcases a with a|a|a
   ·exact h.1 d a
   ·rw[a];exact .inr (.inr ⟨Z,Z,j.2⟩)
   exact g.2.1 d a
  ·rw[Qbh,Sc]at a;rcases a with a|a|a
   ·exact h.2.1 d a
   ·rw[a];exact JO _
   exact g.2.2.1 d a
  rw[Us,Og,Uq,Nz,h.2.2,g.2.2.2,LZ,KG m Z j.2]
theorem zgu (a:Af):Dq true a=a:=by
 unfold Dq;rw[if_neg];rintro⟨_,d,_⟩;cases d
theorem TR (l:List Af)(d:∀a∈l,a.what≠3)(j:Bool):l.map (Dq j)=l:=by
 induction l with
 |nil=>rfl
 |cons a m h=>
  rw[Qs,h (λk g=>d k (Qo _ g))];unfold Dq;rw[if_neg];rintro⟨f,_⟩;exact d a (Qx ..) f
theorem Br.kill {l:List Af}{ps:List Pt}{f:List Bj}(d:Br l ps f):Br (l.map (Dq false)) ps (f.map Bj.kill):=by
 induction d with
 |base l ps d=>rw[TR l d.1];exact .base _ _ d
 |opn q s f a b p d h g o=>
  rw[Qv,Qs,TR b g.1,Qv];have k:(Dq false a).s=a.s:=by unfold Dq;split<;>rfl
  have j:(Dq false a).im=a.im:=by unfold Dq;split<;>rfl
  have m:(Dq false a).what=3/\(Dq false a).left=0:=by unfold Dq;split<;>exact h
  have hd:(Dq false a).dead=(a.dead||!a.im):=by
   unfold Dq;cases r:a.im with
   |false=>rw[if_pos ⟨h.1,rfl,rfl⟩];simp
   |true=>
    rw[if_neg (by rintro⟨_,_,d⟩;cases d)];simp
  have:=Br.opn _ _ _ (Dq false a) b p o m g;rw[k,j,hd]at this;exact this
theorem Br.last {l:List Af}{ps:List Pt}{k:List Bj}{j:Bj}(d:Br l ps (k++[j])):∃g a b f h,l=g++a::b/\ps=f++Db a.s::h/\j=⟨f.length,a.im,a.dead⟩/\Br g f k/\Sg b h/\a.what=3/\a.left=0:=by
 generalize o:k++[j]=s at d;cases d with
 |base _ _ d=>simp at o
 |opn g f t a b h d p q=>
  obtain⟨r,m⟩:=List.append_inj' o rfl;subst r;simp at m;exact⟨g,a,b,f,h,rfl,rfl,m,d,q,p.1,p.2⟩
theorem Br.none {l:List Af}{ps:List Pt}(a:Br l ps []):Sg l ps:=by
 generalize d:([]:List Bj)=j at a;cases a with
 |base _ _ a=>exact a
 |opn f o k m b p a h g=>simp at d
theorem YD (a b:List Af)(g:Af)(j:g.what=3)(h:∀d∈b,d.what≠3)(n:Nat)(l:n<=b.length):Io (a++g::b) (a.length+1+n)=some a.length:=by
 induction n with
 |zero=>
  rw[SL];simp only[Io];rw[Qu (Qc _),Nat.sub_self];simp[j]
 |succ n f=>
  rw[<-Nat.add_assoc];simp only[Io];rw[Qu Z,show a.length+1+n-a.length=n+1 from Z,List.getElem?_cons_succ];cases k:b[n]? with
  |none=>exact f Z
  |some d=>
   dsimp only;rw[if_neg (h d (SN k))];exact f Z
theorem ZX (l:List Af)(f:∀a∈l,a.what≠3)(n:Nat):Io l n=none:=by
 induction n with
 |zero=>rfl
 |succ n d=>
  simp only[Io];cases g:l[n]? with
  |none=>exact d
  |some a=>
   dsimp only;rw[if_neg (f a (SN g))];exact d
structure Fe (ct:Sb)(l:List Af)(s:St):Prop where
 fk:s.f<=s.k
 kl:s.k<=ct.size
 rel:∃l1 l2,l=l1++l2/\Br l1 s.ps s.os/\D7 l2 ((ct.data.toList.drop s.f).take (s.k-s.f))
 sp:Dz ct s.k=0\/(ct.data.toList[s.k]?≠some 32/\ct.data.toList[s.k]?≠some 10)
theorem Fe.flush {a:Sb}{l:List Af}{s:St}(d:Fe a l s):Br l (s.ps++D6 a s.f s.k) s.os:=by
 obtain⟨h,j,rfl,f,g⟩:=d.rel;exact f.ext g.skip
theorem Fe.lay {a:Sb}{l:List Af}{s:St}(f:Fe a l s){p:Pt}{d:Af}(n:Nat)(h:Sg [d] [p])(g:s.k+n<=a.size)(j:Dz a (s.k+n)=0):Fe a (l++[d]) (s.lay a p n):=
 ⟨Qc _,g,⟨l++[d],[],Y,f.flush.ext h,by
  show D7 [] ((a.data.toList.drop (s.k+n)).take (s.k+n-(s.k+n)));rw[Nat.sub_self];exact D7.nil⟩,.inl j⟩
theorem Fe.text {a:Sb}{l:List Af}{s:St}(d:Fe a l s){g:List Af}(n:Nat)(m:D7 g ((a.data.toList.drop s.k).take n))(o:s.k+n<=a.size)(p:Dz a (s.k+n)=0\/(a.data.toList[s.k+n]?≠some 32/\a.data.toList[s.k+n]?≠some 10)):Fe a (l++g) (s.text n):=by
 obtain⟨q,f,rfl,h,j⟩:=d.rel;have r:=d.fk;refine⟨by show s.f<=s.k+n;omega,o,⟨q,f++g,Y,h,?_⟩,p⟩;show D7 (f++g) ((a.data.toList.drop s.f).take (s.k+n-s.f));have k:(a.data.toList.drop s.f).take (s.k+n-s.f)=(a.data.toList.drop s.f).take (s.k-s.f)++(a.data.toList.drop s.k).take n:=by
  rw[show s.k+n-s.f=(s.k-s.f)+n from Z,List.take_add,Qbb,show s.f+(s.k-s.f)=s.k from by omega]
 rw[k];exact j.append m
theorem Fe.text1 {a:Sb}{l:List Af}{s:St}(f:Fe a l s)(b:UInt8)(d:a.data.toList[s.k]?=some b)(g:b≠32):Fe a (l++[Cn ((a.data.toList.drop s.k).take 1)]) (s.text 1):=by
 have h:=(Qb.1 d).1;rw[S.lda]at h;exact f.text 1 (D7.one _) Z (.inl (Mr _ _ b d g))
theorem V7 {t:List UInt8}{l g:List Af}{i f:Nat}{b:UInt8}(s:t[i]?=some b)(a:Hu t l i g f)(o:¬(b=92/\t[i+1]?=some 10))(p:¬(b=92/\(t[i+1]?.map S.mark)=some true))(r:b≠96)(k:¬(b=60/\0<F5 t i))(h:b≠10)(u:¬(b=42\/b=95))(m:b≠91)(j:¬(b=33/\t[i+1]?=some 91))(q:b≠93):g=l++[Cn ((t.drop i).take 1)]/\f=i+1:=by
 obtain⟨c,d,a⟩:=a;rw[s]at d;have:=Qy d;subst this;rw[if_neg o,if_neg p,if_neg r,if_neg k,if_neg h,if_neg u,if_neg m,if_neg j,if_neg q]at a;exact a
theorem Dn.next {t:List UInt8}{l:List Af}{i:Nat}{ns:List Rn}(f:Dn t l i ns)(j:i<t.length):∃d a,Hu t l i d a/\Dn t d a ns:=by
 cases f with
 |done _ _ _ f _=>omega
 |step _ _ d a _ h g=>exact⟨d,a,h,g⟩
theorem Oh (t:List UInt8)(i:Nat)(c:UInt8):Lib.hasPrefix (t.drop i) [c]=true↔t[i]?=some c:=by rw[Kw,Qn,SL]
theorem Xl (t:List UInt8)(i:Nat)(c d:UInt8):Lib.hasPrefix (t.drop i) [c,d]=true↔t[i]?=some c/\t[i+1]?=some d:=by
 have g:(t.drop i)[0]?=t[i]?:=by rw[Qn,SL]
 have h:(t.drop i)[1]?=t[i+1]?:=Qn ..;rw[<-g,<-h];cases k:t.drop i with
 |nil=>simp[Lib.hasPrefix]
 |cons j f=>
  cases f with
  |nil=>simp[Lib.hasPrefix,List.isPrefixOf]
  |cons b f=>
   simp only[Lib.hasPrefix,List.isPrefixOf,Bool.and_true,Bool.and_eq_true,beq_iff_eq,List.getElem?_cons_zero,List.getElem?_cons_succ,Option.some.injEq];exact⟨λa=>⟨a.1.symm,a.2.symm⟩,λa=>⟨a.1.symm,a.2.symm⟩⟩
theorem zem (t:List UInt8)(l:List Af)(i n:Nat)(ns:List Rn)(h:∀d,d<n->t[i+d]?=some 32)(a:Dn t l i ns):Dn t (l++List.replicate n (Cn [32])) (i+n) ns:=by
 induction n generalizing l i with
 |zero=>simpa using a
 |succ n p=>
  have f:=h 0 Z;rw[SL]at f;have g:=(Qb.1 f).1;obtain⟨s,r,o,j⟩:=a.next g;have k:=V7 f o (by rintro⟨a,_⟩;revert a;decide) (by rintro⟨a,_⟩;revert a;decide) J (by rintro⟨a,_⟩;revert a;decide) J J J (by rintro⟨a,_⟩;revert a;decide) J;have m:(t.drop i).take 1=[32]:=by
   rw[Qm g];rw[Qg g]at f;rw[Qy f];rfl
  rw[k.1,k.2,m]at j;have:=p (l++[Cn [32]]) (i+1) (λd q=>by have:=h (d+1) Z;rwa [show i+(d+1)=i+1+d from by omega]at this) j;rw[Qp,List.singleton_append,<-List.replicate_succ,show i+1+n=i+(n+1) from by omega]at this;exact this
theorem YE (n:Nat):D7 (List.replicate n (Cn [32])) (List.replicate n 32):=by
 induction n with
 |zero=>exact D7.nil
 |succ n a=>rw[List.replicate_succ,List.replicate_succ];exact(D7.one [32]).append a
theorem zng (t:List UInt8)(i n:Nat)(d:∀a,a<n->t[i+a]?=some 32):Dz t (i+n)=Dz t i+n:=by
 induction n with
 |zero=>rfl
 |succ n f=>
  rw[<-Nat.add_assoc,FC t (i+n) 32 (d n Z),if_pos rfl,f (λa g=>d a Z)];omega
theorem BH (t:List UInt8)(i:Nat)(b:UInt8)(f:t[i]?=some b):S.same (t.drop i)=S.cnt b (t.drop i)/\1<=S.cnt b (t.drop i)/\i+S.cnt b (t.drop i)<=t.length/\(∀a,a<S.cnt b (t.drop i)->t[i+a]?=some b)/\t[i+S.cnt b (t.drop i)]?≠some b/\(t.drop i).take (S.cnt b (t.drop i))=List.replicate (S.cnt b (t.drop i)) b:=by
 have h:=(Qb.1 f).1;have hd:t.drop i=b::t.drop (i+1):=by
  rw[Qm h];rw[Qg h]at f;rw[Qy f]
 have j:=S.Yp b (t.drop i);rw[Qf]at j;have g:∀a,a<S.cnt b (t.drop i)->t[i+a]?=some b:=λa d=>by have:=Wh b _ a d;rwa [Qn]at this
 refine⟨by rw[hd];rfl,by rw[hd];simp[S.cnt],Z,g,by have:=GZ b (t.drop i);rwa [Qn]at this,?_⟩;apply List.ext_getElem?
 intro a;by_cases d:a<S.cnt b (t.drop i)
 ·rw[Qbe d,Qn,g a d,List.getElem?_replicate,if_pos d]
 rw[Qr (by rw[Ql];omega),Qr (by rw[List.length_replicate];omega)]
theorem V4 (k:Int)(t:List UInt8)(a:¬k=8):Sg [Gi k t] [.mk k [] t [] 0 false false]:=Sg.node _ _ a ⟨rfl,rfl⟩ (by simp only[Hr,Dh])
theorem Fe.open {d:Sb}{l:List Af}{s:St}(g:Fe d l s)(a:List UInt8)(f:Bool)(h:s.k+a.length<=d.size)(j:Dz d (s.k+a.length)=0):Fe d (l++[Ht a f]) (s.open d a f):=
 ⟨Qc _,h,⟨l++[Ht a f],[],Y,Br.opn _ _ _ (Ht a f) [] [] g.flush ⟨rfl,rfl⟩ Sg.nil,by
  show D7 [] ((d.data.toList.drop (s.k+a.length)).take (s.k+a.length-(s.k+a.length)));rw[Nat.sub_self];exact D7.nil⟩,.inl j⟩
theorem Fe.close {a:Sb}{l an:List Af}{s:St}{am:Nat}(A:Fe a l s)(o:a.data.toList[s.k]?=some 93)(M:Jl l a s.k an am):Fe a an (if (s.close a).1=true then (s.close a).2 else (s.close a).2.text 1)/\am=(if (s.close a).1=true then (s.close a).2 else (s.close a).2.text 1).k:=by
 have a0:=(Qb.1 o).1;rw[S.lda]at a0;have ak:=M.place o;have aa:(a.data.toList.drop s.k).take 1=[93]:=by
  have ai:=(Qb.1 o).1;rw[Qm ai];rw[Qg ai]at o;rw[Qy o];rfl
 have bd:Dz a (s.k+1)=0:=Mr _ _ 93 o J;obtain⟨bf,q,ag,ac,K⟩:=A.rel;rcases List.eq_nil_or_concat s.os with p|⟨m,z,p⟩
 ·have N:s.close a=(false,s):=by unfold St.close;rw[p];rfl
  rw[N];simp only[Bool.false_eq_true,if_false];have E:=(p▸ac).none;have aj:Io l l.length=none:=ZX l (by
   rw[ag];intro r h;rw[Qbh]at h;exact h.elim (E.1 r) (K.wf.1 r)) _
  rcases M with ⟨_,t,k⟩|⟨T,d,g,_⟩|⟨T,d,W,g,_⟩
  ·rw[t,k,<-aa];exact⟨A.text1 93 o J,rfl⟩
  ·rw[aj]at g;cases g
  rw[aj]at g;cases g
 have p:s.os=m++[z]:=by simpa using p
 have ah:s.os.getLast?=some z:=by rw[p];simp
 have ae:s.os.dropLast=m:=by rw[p];simp
 obtain⟨f,d,b,j,v,az,al,G,L,E,a7,a5⟩:=(p▸ac).last;have aq:∀r∈b++q,r.what≠3:=by
  intro r h;rw[Qbh]at h;exact h.elim (E.1 r) (K.wf.1 r)
 have C:l=f++d::(b++q):=by rw[ag,az];simp
 have P:Io l l.length=some f.length:=by
  rw[C,show (f++d::(b++q)).length=f.length+1+(b++q).length from by simp;omega];exact YD f (b++q) d a7 aq _ (Qc _)
 have af:l[f.length]?=some d:=by rw[C,Qu (Qc _),Nat.sub_self];rfl
 have a1:(z.dead=true\/S.Gg (a.data.toList.drop (s.k+1))=false)->s.close a=(false,⟨s.f,s.k,s.ps,m⟩):=by
  intro u;unfold St.close;rw[ah,ae];dsimp only;rw[if_neg];rintro⟨t,k⟩;rcases u with u|u
  ·rw[t]at u;cases u
  rw[k]at u;cases u
 rcases M with ⟨F,_⟩|⟨T,bb,g,D,x,t,k⟩|⟨T,bb,W,g,D,hd,R,h,t,k⟩
 ·rw[P]at F;cases F
 ·rw[P]at g;have g:=Qy g;subst g;rw[af]at D;have:=Qy D;subst this;have N:=a1 (by
   rcases x with x|x
   ·exact .inl (by rw[G];exact x)
   right
   unfold tgt at x;cases y:S.Gg (a.data.toList.drop (s.k+1)) with
   |false=>rfl
   |true=>rw[if_pos y]at x;omega)
  rw[N];simp only[Bool.false_eq_true,if_false];refine⟨?_,k⟩;have a8:l.set f.length { d with what:=0 } = (f ++ { d with what:=0 } :: b)++q:=by
   rw[C];rw[SG _ _ (Qc _),Nat.sub_self];simp
  have a6:Sg ({ d with what:=0 } :: b) (Db d.s::v):=by
   have F:Sg [{ d with what:=0 }] [Db d.s]:=by
    have:D7 [({ d with what:=0 } : Af)] d.s:=⟨λr h=>by rw[Qbi]at h;subst h;exact⟨rfl,a5⟩,Y⟩
    exact this.seg
   exact F.append E
  have ao:Fe a (l.set f.length { d with what:=0 }) ⟨s.f,s.k,s.ps,m⟩:=
   ⟨A.fk,A.kl,⟨f ++ { d with what:=0 } :: b,q,a8,by
    show Br _ s.ps m;rw[al];exact L.ext a6,K⟩,A.sp⟩
  rw[t,<-aa];exact ao.text1 93 o J
 rw[P]at g;have g:=Qy g;subst g;rw[af]at D;have:=Qy D;subst this;have y:S.Gg (a.data.toList.drop (s.k+1))=true:=by
  unfold tgt at R;cases y:S.Gg (a.data.toList.drop (s.k+1)) with
  |true=>rfl
  |false=>rw[y]at R;simp at R
 have ax:z.dead=false:=by rw[G];exact hd
 have a4:z.j=j.length:=by rw[G]
 have a3:z.image=d.im:=by rw[G]
 have ab:(S.addrOf (a.data.toList.drop (s.k+1))).length=S.E8 [40,41,60,62] (a.data.toList.drop (s.k+1+1)):=by
  unfold S.addrOf;rw[Qbb,Ql];have:=S.HY [40,41,60,62] (a.data.toList.drop (s.k+1+1));omega
 have H:tgt a (s.k+1)=s.k+(3+(S.addrOf (a.data.toList.drop (s.k+1))).length):=by
  rw[ab];unfold tgt;rw[if_pos y];omega
 have ap:(a.data.toList.take (tgt a (s.k+1)-1)).drop (s.k+2)=S.addrOf (a.data.toList.drop (s.k+1)):=by
  rw[H,ab,show s.k+(3+S.E8 [40,41,60,62] (a.data.toList.drop (s.k+1+1)))-1=(s.k+2)+S.E8 [40,41,60,62] (a.data.toList.drop (s.k+1+1)) from Z,List.drop_take];unfold S.addrOf;rw[Qbb];congr 1
  omega
 have av:s.close a=(true,⟨s.k+(3+(S.addrOf (a.data.toList.drop (s.k+1))).length),s.k+(3+(S.addrOf (a.data.toList.drop (s.k+1))).length),j++[Nv (S.addrOf (a.data.toList.drop (s.k+1))) d.im (v++D6 a s.f s.k)],if d.im then m else m.map Bj.kill⟩):=by
  unfold St.close;rw[ah,ae];dsimp only;have ba:(j++Db d.s::v).take j.length=j:=by rw[Qbc (Qc _),Qbl]
  have ay:(j++Db d.s::v).drop (j.length+1)=v:=by
   rw[List.drop_append,Qw Z,show j.length+1-j.length=1 from by omega];rfl
  rw[if_pos ⟨ax,y⟩,a4,a3,al,ba,ay]
 rw[av];simp only[if_true];refine⟨?_,by rw[k,H]⟩;have a2:W=Dh (He (v++D6 a s.f s.k)):=by
  have aw:l.drop (f.length+1)=b++q:=by
   rw[C,List.drop_append,Qw Z,show f.length+1-f.length=1 from by omega];rfl
  rw[aw]at h;have Q:=E.append K.skip;exact VA _ _ _ Q.2.2.2 Q.2.1 Q.2.2.1 h
 have a9:l.take f.length=f:=by rw[C,Qbc (Qc _),Qbl]
 have au:Sg [C8 (.nd (if d.im=true then 13 else 12) 0 (S.addrOf (a.data.toList.drop (s.k+1))) [] 0 W)] [Nv (S.addrOf (a.data.toList.drop (s.k+1))) d.im (v++D6 a s.f s.k)]:=by
  refine Sg.node _ _ (by show ¬(if d.im=true then (13:Int)else 12)=8;split<;>decide) ⟨rfl,rfl⟩ ?_
  rw[FX,a2];rfl
 have ar:Br (f.map (Dq d.im)) j (if d.im=true then m else m.map Bj.kill):=by
  cases bc:d.im with
  |true=>
   rw[if_pos rfl];have:f.map (Dq true)=f:=by
    rw[show Dq true=id from funext zgu,List.map_id]
   rw[this];exact L
  |false=>
   simp only[Bool.false_eq_true,if_false];exact L.kill
 rw[t,ap,a9];refine⟨Qc _,?_,⟨_,[],(Qbk _).symm,ar.ext au,?_⟩,.inl ?_⟩;·have:=ak.2.1;rw[k,H,S.lda]at this;exact this
 ·show D7 [] ((a.data.toList.drop _).take (_-_));rw[Nat.sub_self];exact D7.nil
 have:=ak.2.2;rw[k,H]at this;exact this
theorem Fe.step {f:Sb}{l:List Af}{s:St}{ns:List Rn}(h:Fe f l s)(al:s.k<f.size)(ao:Dn f l s.k ns):∃D,Fe f D (step f s)/\Dn f D (step f s).k ns:=by
 obtain⟨a,o⟩:=Qyy (f.data.toList);have a9:s.k<a.length:=by rw[<-o,S.lda];exact al
 have j:a[s.k]?=some f[s.k]:=by rw[<-o];exact S.Bz f s.k al
 have bn:f.size=a.length:=by rw[<-o,S.lda]
 rw[Kz f s al];rw[o]at ao;have an:=h.sp;rw[o]at an;generalize f[s.k]=b at j;obtain⟨D,bi,ax,m⟩:=ao.next a9;have ag:=ax;obtain⟨c,aq,d⟩:=ax;rw[j]at aq;have:=Qy aq;subst this;unfold J3;rw[o];have bm:s.k+1<=f.size:=Z;have bh:∀(q:b≠32),Fe f (l++[Cn ((a.drop s.k).take 1)]) (s.text 1):=λq=>by
  have:=h.text1 b (by rw[o];exact j) q;rwa [o]at this
 have ae:∀(q:b≠32),(D=l++[Cn ((a.drop s.k).take 1)]/\bi=s.k+1)->∃D,Fe f D (s.text 1)/\Dn a D (s.text 1).k ns:=λq t=>by
  refine⟨_,bh q,?_⟩;rw[t.1,t.2]at m;exact m
 have v:∀(n:Nat) (c:UInt8),a[n]?=some c->c≠32->Dz f (n+1)=0:=λn c y H=>by rw[o];exact Mr a n c y H
 by_cases r:b=92
 ·subst r;rw[if_pos rfl];by_cases k:a[s.k+1]?=some 10
  ·rw[if_pos ((Xl a s.k 92 10).2 ⟨j,k⟩)];rw[if_pos ⟨rfl,k⟩]at d;have ba:=(Qb.1 k).1;refine⟨_,h.lay 2 (V4 10 [] J) Z (v _ 10 k J),?_⟩;rw[d.1,d.2]at m;exact m
  rw[if_neg (λe=>k ((Xl a s.k 92 10).1 e).2)];rw[if_neg (λe=>k e.2)]at d;have ak:S.escapes (a.drop s.k)=true↔(a[s.k+1]?.map S.mark)=some true:=by
   unfold S.escapes;rw[Qn];cases a[s.k+1]? with
   |none=>simp
   |some A=>simp
  by_cases t:S.escapes (a.drop s.k)=true
  ·rw[if_pos t];rw[if_pos ⟨rfl,ak.1 t⟩]at d;obtain⟨A,hd,au⟩:∃A,a[s.k+1]?=some A/\S.mark A=true:=by
    have:=ak.1 t;cases a0:a[s.k+1]? with
    |none=>rw[a0]at this;simp at this
    |some A=>rw[a0]at this;exact⟨A,rfl,by simpa using this⟩
   have bl:=(Qb.1 hd).1;have a7:A≠32:=λe=>by rw[e]at au;revert au;decide
   refine⟨l++[Cn ((a.drop (s.k+1)).take 1)],?_,?_⟩
   ·have a5:Fe f l (s.skip f 1):=⟨Qc _,by show s.k+1<=_;omega,⟨l,[],Y,h.flush,by
     show D7 [] ((f.data.toList.drop (s.k+1)).take (s.k+1-(s.k+1)));rw[Nat.sub_self];exact D7.nil⟩,.inl (v _ 92 j J)⟩
    have:=a5.text1 A (by show f.data.toList[s.k+1]?=_;rw[o];exact hd) a7;rw[o]at this;exact this
   rw[d.1,d.2]at m;exact m
  rw[if_neg t];refine ae J (V7 j ag (λe=>k e.2) (λe=>t (ak.2 e.2)) J (by rintro⟨h,_⟩;revert h;decide) J J J (by rintro⟨h,_⟩;revert h;decide) J)
 rw[if_neg r];rw[if_neg (λe=>r e.1),if_neg (λe=>r e.1)]at d;by_cases K:b=96
 ·subst K;rw[if_pos rfl];rw[if_pos rfl]at d;obtain⟨G,M,W,z,aa,F⟩:=BH a s.k 96 j;rw[G];obtain⟨n,k⟩:=Qyy (S.cnt 96 (a.drop s.k));rw[k]at d M W z F ⊢;have u:Jd a s.k=Xt s.k n (S.Ji (a.drop s.k) n):=by unfold Jd;rw[k]
  cases az:S.Ji (a.drop s.k) n with
  |some x=>
   rw[az]at u;have u:Jd a s.k=s.k+x+n:=u;have av:=CK a s.k (by rw[k];exact M) (by rw[u];omega);rw[k,u]at av;rw[if_pos (by rw[u];omega)]at d;dsimp only;refine⟨_,h.lay (p:=Me f s.k n x) (x+n) (V4 11 (S.Ip ((f.data.toList.drop (s.k+n)).take (x-n))) J) Z (by
    have:=v (s.k+x+n-1) 96 av.2.2 J;rwa [show s.k+x+n-1+1=s.k+(x+n) from by omega]at this),?_⟩
   rw[d.1,d.2,u,zbp,show s.k+x+n-n-(s.k+n)=x-n from by omega]at m;rw[o];show Dn a _ (s.k+(x+n)) ns;rw[<-Nat.add_assoc];exact m
  |none=>
   rw[az]at u;have u:Jd a s.k=0:=u;rw[if_neg Z]at d;dsimp only;refine⟨l++[Cn ((a.drop s.k).take n)],?_,?_⟩
   ·have:=h.text (g:=[Cn ((a.drop s.k).take n)]) n (by rw[o];exact D7.one _) Z (.inl (by
     have:=v (s.k+(n-1)) 96 (z _ Z) J;rwa [show s.k+(n-1)+1=s.k+n from by omega]at this))
    exact this
   rw[d.1,d.2]at m;exact m
 rw[if_neg K];rw[if_neg K]at d;by_cases q:b=32
 ·subst q;rw[if_pos rfl];obtain⟨G,M,W,z,aa,F⟩:=BH a s.k 32 j;rw[G];obtain⟨n,k⟩:=Qyy (S.cnt 32 (a.drop s.k));rw[k]at M W z aa F ⊢;have am:Dz a s.k=0:=by
   rcases an with y|y
   ·exact y
   exact absurd j y.1
  have ay:=zng a s.k n z;rw[am,Nat.zero_add]at ay;have aw:=zem a l s.k n ns z ao;by_cases N:a[s.k+n]?=some 10
  ·rw[if_pos ((Oh a (s.k+n) 10).2 N)];have bb:=(Qb.1 N).1;obtain⟨bp,bo,bf,ab⟩:=aw.next bb;obtain⟨bj,ar,ah⟩:=bf;rw[N]at ar;have:=Qy ar;subst this;rw[if_neg (by rintro⟨h,_⟩;revert h;decide),if_neg (by rintro⟨h,_⟩;revert h;decide),if_neg J,if_neg (by rintro⟨h,_⟩;revert h;decide),if_pos rfl,ay]at ah;have bg:(l++List.replicate n (Cn [32])).take ((l++List.replicate n (Cn [32])).length-n)=l:=by
    rw[Qa,List.length_replicate,SF,Qbc (Qc _),Qbl]
   rw[bg]at ah;have a1:=v (s.k+n) 10 N J;rw[ah.1,ah.2]at ab;by_cases H:2<=n
   ·rw[if_pos H];rw[if_pos H]at ab;exact⟨_,h.lay (n+1) (V4 10 [] J) Z a1,ab⟩
   rw[if_neg H];rw[if_neg H]at ab;exact⟨_,h.lay (n+1) (V4 9 [] J) Z a1,ab⟩
  rw[if_neg (λe=>N ((Oh a (s.k+n) 10).1 e))];refine⟨_,h.text n (by rw[o,F];exact YE n) Z (.inr (by rw[o];exact⟨aa,N⟩)),aw⟩
 rw[if_neg q];by_cases Q:b=10
 ·subst Q;rw[if_pos rfl];rw[if_neg (by rintro⟨h,_⟩;revert h;decide),if_pos rfl]at d;have am:Dz a s.k=0:=by
   rcases an with y|y
   ·exact y
   exact absurd j y.2
  rw[am,Nat.sub_zero,Qbl,if_neg J]at d;refine⟨_,h.lay 1 (V4 9 [] J) Z (v _ 10 j J),?_⟩;rw[d.1,d.2]at m;exact m
 rw[if_neg Q];by_cases R:b=60
 ·subst R;rw[if_pos rfl];by_cases af:S.Eb (a.drop s.k)=true
  ·rw[if_pos af];have L:F5 a s.k=s.k+S.Hf (a.drop s.k)+1:=by unfold F5;rw[if_pos af]
   have ap:=FN a s.k (by rw[L];omega);rw[L]at ap;rw[if_pos ⟨rfl,by rw[L];omega⟩]at d;have aj:(S.Gv (a.drop s.k)).length=S.Hf (a.drop s.k)-1:=by
    unfold S.Gv;rw[Qbb,Ql,Qf];omega
   have bk:1<=S.Hf (a.drop s.k):=Z;refine⟨l++[Mk (S.Gv (a.drop s.k))],h.lay _ (Sg.node _ _ (show ¬(12:Int)=8 from J) ⟨rfl,rfl⟩ (by simp only[M5,Db,Hr,Dh])) (by rw[aj];omega) (by
    have:=v (s.k+S.Hf (a.drop s.k)+1-1) 62 ap.2.2 J;rwa [show s.k+S.Hf (a.drop s.k)+1-1+1=s.k+((S.Gv (a.drop s.k)).length+2) from by rw[aj];omega]at this),?_⟩
   rw[d.1,d.2,L]at m;have t:(a.drop (s.k+1)).take (s.k+S.Hf (a.drop s.k)+1-1-(s.k+1))=S.Gv (a.drop s.k):=by
    unfold S.Gv;rw[Qbb];congr 1;omega
   rw[t]at m;show Dn a _ (s.k+((S.Gv (a.drop s.k)).length+2)) ns;rw[aj,show s.k+(S.Hf (a.drop s.k)-1+2)=s.k+S.Hf (a.drop s.k)+1 from by omega];exact m
  rw[if_neg af];have L:F5 a s.k=0:=by unfold F5;rw[if_neg af]
  exact ae J (V7 j ag (λe=>r e.1) (λe=>r e.1) K (by rw[L];omega) J J J (by rintro⟨h,_⟩;revert h;decide) J)
 rw[if_neg R];rw[if_neg (λe=>R e.1),if_neg Q]at d;by_cases P:b=42\/b=95
 ·rw[if_pos P];rw[if_pos P]at d;obtain⟨G,M,W,z,aa,F⟩:=BH a s.k b j;rw[G]at d ⊢;obtain⟨n,k⟩:=Qyy (S.cnt b (a.drop s.k));rw[k]at d G M W z aa F ⊢;have a6:b≠32:=q;have bd:Kh a s.k=⟨2,[],O8,b,n,n,S.I9 a s.k n,S.I7 a s.k n,false,false⟩:=by
   unfold Kh;rw[G,j];rfl
  have bc:Ld f s.k n=.mk 8 [] (List.replicate n b) [] n (S.I9 a s.k n) (S.I7 a s.k n):=by
   unfold Ld;rw[o,F]
  refine⟨l++[Kh a s.k],h.lay n ?_ Z (by
   have:=v (s.k+(n-1)) b (z _ Z) a6;rwa [show s.k+(n-1)+1=s.k+n from by omega]at this),?_⟩
  ·rw[bd,bc];refine⟨λa2 C=>?_,λa2 C=>?_,λa2 C=>?_,?_⟩;·rw[Qbi]at C;subst C;exact show ¬(2:Int)=3 from J
   ·rw[Qbi]at C;subst C;exact .inl ⟨rfl,rfl⟩
   ·rw[Qbi]at C;subst C;exact .inl ⟨rfl,rfl,rfl,.inr ⟨b,by show List.replicate n b=List.replicate (List.replicate n b).length b;rw[List.length_replicate]⟩⟩
   rw[Te,Og,Yu,Qbk];have a3:Ib ⟨2,[],O8,b,n,n,S.I9 a s.k n,S.I7 a s.k n,false,false⟩=Jb b n n (S.I9 a s.k n) (S.I7 a s.k n):=by
    unfold Ib;rw[if_neg (show ¬(2:Int)=1 from J)];rfl
   have a4:Gn (.mk 8 [] (List.replicate n b) [] n (S.I9 a s.k n) (S.I7 a s.k n))=if S.I9 a s.k n=false/\S.I7 a s.k n=false then (List.replicate n b).map Am.b else Jb ((List.replicate n b).headD 0) (List.replicate n b).length n (S.I9 a s.k n) (S.I7 a s.k n):=by
    unfold Gn;rw[if_pos (show (Pt.mk 8 [] (List.replicate n b) [] n (S.I9 a s.k n) (S.I7 a s.k n)).kind=8 from rfl)];rfl
   rw[a3,a4,List.length_replicate,List.map_replicate];have a8:(List.replicate n b).headD 0=b:=by
    cases n with
    |zero=>omega
    |succ n=>rfl
   rw[a8];unfold Jb;rw[if_neg Z];split<;>rfl
  rw[d.1,d.2]at m;exact m
 rw[if_neg P];rw[if_neg P]at d;by_cases ac:b=93
 ·subst ac;rw[if_pos (.inr (.inr rfl))];rw[if_neg J,if_neg (by rintro⟨h,_⟩;revert h;decide),if_pos rfl]at d;have E:s.Ci f=s.close f:=by
   unfold St.Ci;rw[o,if_pos ((Oh a s.k 93).2 j)]
  rw[E];rw[<-o]at d m;have:=h.close (by rw[o];exact j) d;refine⟨D,this.1,?_⟩;rw[<-this.2,<-o];exact m
 by_cases T:b=91
 ·subst T;rw[if_pos (.inr (.inl rfl))];rw[if_pos rfl]at d;have E:s.Ci f=(true,s.open f [91] false):=by
   unfold St.Ci;rw[o,if_neg (λe=>by have:=(Oh a s.k 93).1 e;rw[j]at this;revert this;decide),if_pos ((Oh a s.k 91).2 j)]
  rw[E];simp only[if_true];refine⟨_,h.open [91] false (by show s.k+1<=_;omega) (v _ 91 j J),?_⟩;rw[d.1,d.2]at m;exact m
 rw[if_neg T]at d;by_cases ai:b=33
 ·subst ai;rw[if_pos (.inl rfl)];by_cases k:a[s.k+1]?=some 91
  ·rw[if_pos ⟨rfl,k⟩]at d;have ba:=(Qb.1 k).1;have E:s.Ci f=(true,s.open f [33,91] true):=by
    unfold St.Ci;rw[o,if_neg (λe=>by have:=(Oh a s.k 93).1 e;rw[j]at this;revert this;decide),if_neg (λe=>by have:=(Oh a s.k 91).1 e;rw[j]at this;revert this;decide),if_pos ((Xl a s.k 33 91).2 ⟨j,k⟩)]
   rw[E];simp only[if_true];refine⟨_,h.open [33,91] true (by show s.k+2<=_;omega) (v (s.k+1) 91 k J),?_⟩;rw[d.1,d.2]at m;exact m
  have E:s.Ci f=(false,s):=by
   unfold St.Ci;rw[o,if_neg (λe=>by have:=(Oh a s.k 93).1 e;rw[j]at this;revert this;decide),if_neg (λe=>by have:=(Oh a s.k 91).1 e;rw[j]at this;revert this;decide),if_neg (λe=>k ((Xl a s.k 33 91).1 e).2)]
  rw[E];simp only[Bool.false_eq_true,if_false];exact ae J (V7 j ag (λe=>r e.1) (λe=>r e.1) K (λe=>R e.1) Q P T (λe=>k e.2) ac)
 rw[if_neg (λe=>e.elim ai (λe=>e.elim T ac))];exact ae q (V7 j ag (λe=>r e.1) (λe=>r e.1) K (λe=>R e.1) Q P T (λe=>ai e.1) ac)
theorem Ends.same {f:Sb}{s:St}{r:List Pt}(l:Ends f s r):∀d a,Fe f d s->Dn f d s.k a->a=Dh (He r):=by
 induction l with
 |done s k=>
  intro d a g j;cases j with
  |done _ _ _ _ q=>
   have h:=g.flush;exact VA _ _ _ h.all.2.2 h.all.1 h.all.2.1 q
  |step _ _ _ _ _ t _=>
   obtain⟨c,p,_⟩:=t;have:=(Qb.1 p).1;rw[S.lda]at this;omega
 |go s r k x u=>
  intro d a g j;obtain⟨v,m,o⟩:=g.step k j;exact u v a m o
theorem zjk (d:Sb)(s:St):s.k<=(s.Ci d).2.k/\((s.Ci d).1=true->s.k<(s.Ci d).2.k):=by
 unfold St.Ci;split
 ·unfold St.close;split
  ·exact⟨Qc _,λa=>by cases a⟩
  split
  ·exact⟨Nat.le_add_right _ _,λ_=>by show s.k<s.k+(3+_);omega⟩
  exact⟨Qc _,λa=>by cases a⟩
 split
 ·exact⟨Nat.le_add_right _ _,λ_=>by show s.k<s.k+1;omega⟩
 split
 ·exact⟨Nat.le_add_right _ _,λ_=>by show s.k<s.k+2;omega⟩
 exact⟨Qc _,λa=>by cases a⟩
theorem zlp (a:Sb)(s:St)(d:s.k<a.size):s.k<(step a s).k:=by
 rw[Kz a s d];have h:=(Nh a s.k d).1;unfold J3;split
 ·split
  ·show s.k<s.k+2;omega
  split
  ·show s.k<s.k+1+1;omega
  show s.k<s.k+1;omega
 split
 ·split
  ·show s.k<s.k+(_+S.same _);omega
  show s.k<s.k+S.same _;omega
 split
 ·split
  ·split
   ·show s.k<s.k+(_+1);omega
   show s.k<s.k+(_+1);omega
  show s.k<s.k+S.same _;omega
 split
 ·show s.k<s.k+1;omega
 split
 ·split
  ·show s.k<s.k+(_+2);omega
  show s.k<s.k+1;omega
 split
 ·show s.k<s.k+S.same _;omega
 split
 ·have g:=zjk a s;split
  ·rename_i f;exact g.2 f
  show s.k<(s.Ci a).2.k+1;omega
 show s.k<s.k+1;omega
theorem Fe.ends {d:Sb}{ns:List Rn}(n:Nat):∀(g:List Af) (a:St),d.size-a.k<=n->Fe d g a->Dn d g a.k ns->∃h,Ends d a h:=by
 induction n with
 |zero=>
  intro g a o f k;exact⟨_,Ends.done a (by have:=f.kl;omega)⟩
 |succ n q=>
  intro g a o f k;by_cases j:a.k<d.size
  ·obtain⟨r,l,m⟩:=f.step j k;have:=zlp d a j;obtain⟨h,p⟩:=q r (Go.Proofs.YtlojgpkajkedeaaGreatDoor.step d a) Z l m;exact⟨h,Ends.go a h j p⟩
  exact⟨_,Ends.done a (by have:=f.kl;omega)⟩
theorem X0 (c:List UInt8)(ns:List Rn)(g:Dn c [] 0 ns):ns=Dh (Ey c):=by
 have d:Fe (S.B c) [] Ki:=⟨Qc _,Qt _,⟨[],[],rfl,Br.base _ _ Sg.nil,D7.nil⟩,.inl rfl⟩;have f:Dn (S.B c).data.toList [] Ki.k ns:=by rw[S.Bq];exact g
 obtain⟨h,a⟩:=Fe.ends _ [] Ki (Qc _) d f;rw[Ut c h a];exact a.same [] ns d f
mutual
theorem zce (a:Nat):∀d:Pt,Oc a (Hr d)=Ri a d
 |.mk h i j Ab _ _ _=>by
  simp only[Hr,Oc,Ri];rw[Zr (a+1) Ab]
theorem Zr (a:Nat):∀f:List Pt,Ed a (Dh f)=Et a f
 |[]=>by simp only[Dh,Ed,Et]
 |d::g=>by
  simp only[Dh,Ed,Et];rw[zce a d,Zr a g]
end
abbrev CT (s:List UInt8)(ns:List Rn):Prop:=ns=Dh (Ey s)
mutual
theorem zb1 (d:Nat) (z:Int) (b:S.Ac) (n:Rn) (a:Fx CT z b n) (f:Oq b):Oc d n=Ms Jo d b:=by
 cases b with
 |at_ r p t i v s k=>
  cases n with
  |nd h u o x q l=>
   simp only[Fx]at a;simp only[Oq]at f;obtain⟨rfl,rfl,rfl,rfl,_,a⟩:=a;simp only[Oc,Ms];rw[zlc];congr 1
   by_cases g:h=1\/h=2
   ·rw[if_pos g]at a;rw[if_pos g,f.1 g,a,Zr];unfold Jo;simp only[Cw,Qbk]
   rw[if_neg g]at a;rw[if_neg g,SY];exact EY (d+1) _ k l a f.2
theorem EY (d:Nat) (z:Int) (bs:List S.Ac) (ns:List Rn) (a:Bb CT z bs ns) (f:Jw bs):Ed d ns=Cw Jo d bs:=by
 cases bs with
 |nil=>
  cases ns with
  |nil=>rfl
  |cons n j=>simp only[Bb]at a
 |cons b m=>
  cases ns with
  |nil=>simp only[Bb]at a
  |cons n j=>
   simp only[Bb]at a;simp only[Jw]at f;simp only[Ed,Cw];rw[zb1 d z b n a.1 f.1,EY d z m j a.2 f.2]
end
theorem zfo (l:List UInt8)(ns:List Rn)(a:Bb (λd ns=>Dn d [] 0 ns) 0 (S.Ag (l.length+1) (S.Aw l)).1 ns):Ed 0 ns=Lr l:=by
 unfold Lr;exact EY 0 0 _ ns (a.mono (λd ns a=>X0 d ns a)) (zm7 _ _)
