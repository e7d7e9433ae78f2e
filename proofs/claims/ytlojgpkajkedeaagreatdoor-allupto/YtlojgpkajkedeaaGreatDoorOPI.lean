import Derived.Test.YtlojgpkajkedeaaGreatDoorOXM
set_option maxHeartbeats 0
set_option maxRecDepth 100000
namespace Go.Proofs.YtlojgpkajkedeaaGreatDoor
open Go.RowKit Go.Proofs.Tryz
namespace S
theorem zjf (l:List UInt8)(a:Nat):l.foldl (λa b=>a*10+(b.toNat-48)) a<=(a+300)*10 ^ l.length:=by
 induction l generalizing a with
 |nil=>simp
 |cons b l g=>
  have d:=g (a*10+(b.toNat-48));have h:=b.toNat_lt;rw[List.foldl_cons,Qd,Nat.pow_succ];refine Qj d ?_;have f:a*10+(b.toNat-48)+300<=(a+300)*10:=Z;refine Qj (Nat.mul_le_mul_right _ f) (Nat.le_of_eq ?_);rw[Nat.mul_assoc,Nat.mul_comm 10]
theorem zgj (l:List UInt8)(a:l.length<=6) : -1<=Al l/\Al l<=300000000:=by
 unfold Al;split;·omega
 have d:=zjf l 0;have f:10 ^ l.length<=10 ^ 6:=Nat.pow_le_pow_right J a;have g:dec l<=(0+300)*10 ^ 6:=Qj d (Nat.mul_le_mul_left _ f);omega
theorem zaj (l:List UInt8):Bh l<=7:=by
 unfold Bh;split
 ·omega
 split
 ·omega
 split<;>omega
theorem TB (l:List UInt8) : -1<=(Ae l).Al/\(Ae l).Al<=300000000:=by
 unfold Ae;split;·exact⟨J,J⟩
 have:=zaj (Aq l);exact zgj _ (by rw[Ql];omega)
theorem XB (l:List UInt8):En l<=6:=by unfold En;split<;>omega
theorem NV (l:List UInt8):Ez l<=2:=by
 unfold Ez;split;·omega
 split<;>omega
theorem zb5 (l:List UInt8):(Bp l).info.length<=l.length:=by
 have d:=CF l;unfold Bp;split;·simp
 rename_i c a f;split
 ·have:=Ul ((c::a).drop (cnt c (c::a))) 32;rw[Qf]at this;rw[f]at d;show (Nk (c::a) c).length<=_;unfold Nk;omega
 simp
theorem zh3 (a:List (List UInt8)):(Hy a).length<=tt a:=by
 induction a with
 |nil=>simp[Hy]
 |cons g f d=>
  rw[Ho];simp only[Hy,Qs,List.flatten_cons,Qa,Qf,List.length_singleton]at *;omega
theorem zep (d:Nat)(a:List (List UInt8)):(Ef d a).length<=tt a:=by
 induction a with
 |nil=>simp[Ef]
 |cons h g f=>
  rw[Ho];simp only[Ef,Qs,List.flatten_cons,Qa,Qf,List.length_singleton]at *;omega
end S
theorem RL (z:Int)(b:S.Ac):Gl (b.put z)↔Gl b:=by cases b;simp only[S.Ac.put,Gl]
theorem Yl (z:Int)(b:S.Ac):Eo (b.put z)=Eo b:=by cases b;simp only[S.Ac.put,Eo]
theorem O3 (z k n:Int)(i t:List UInt8)(h:Bool)(a:List S.Ac)(j : -1<=n)(l:n<=300000000)(d:i.length<=300000)(g:t.length<=300000)(f:C9 a):Gl (.at_ z k n i t h a):=by
 simp only[Gl];exact⟨Z,Z,d,g,f⟩
theorem zfq (h:List (List UInt8)->List S.Ac×Bool)(y:∀m,S.tt m<=300000->C9 (h m).1/\Bo (h m).1<=400*S.tt m)(kind:UInt8)(j d:Nat)(l:List UInt8)(r:List (List UInt8))(x:(S.Ae l).ok=true)(E:S.tt (l::r)<=300000):C9 (S.Bt h kind j d (S.Ae l) (l::r)).1/\Bo (S.Bt h kind j d (S.Ae l) (l::r)).1+280*min d 1<=400*S.tt ((l::r).take (S.Bt h kind j d (S.Ae l) (l::r)).2.2):=by
 induction d generalizing l r with
 |zero=>simp[S.Bt,Bo,C9]
 |succ d A=>
  have u:=S.Yy l r x;have D:=S.Mt (l::r) (S.Ay (S.Ae l) (l::r)).length;have p:=y (S.Ay (S.Ae l) (l::r)) Z;rw[S.Kv];obtain⟨a,s⟩:=Qyy ((S.Ay (S.Ae l) (l::r)).length);obtain⟨f,t⟩:=Qyy (S.Az ((l::r).drop a));rw[s]at u ⊢;rw[t];have v:min (d+1) 1=1:=Z;rw[v];by_cases g:(S.Cj kind ((l::r).drop (a+f))).ok=true
  ·rw[if_pos g];cases hd:(l::r).drop (a+f) with
   |nil=>rw[hd]at g;simp[S.Cj]at g
   |cons k o=>
    rw[hd]at g;have q:=S.O6 kind k o g;have z:=S.L6 (l::r) (a+f);rw[hd]at z;have:=A k o q.2.2 Z;rw[q.1];have e:=S.OI (l::r) (a+f) (S.Bt h kind j d (S.Ae k) (k::o)).2.2;rw[hd]at e;have C:=S.Uo (l::r) a (a+f) Z;dsimp only;refine⟨?_,?_⟩
    ·simp only[C9];exact⟨O3 _ _ _ _ _ _ _ J J Y Y p.1,this.1⟩
    simp only[Bo,Eo,Qi];rw[e];omega
  rw[if_neg g];dsimp only;refine⟨?_,?_⟩
  ·simp only[C9];exact⟨O3 _ _ _ _ _ _ _ J J Y Y p.1,trivial⟩
  simp only[Bo,Eo,Qi];omega
theorem znh (f:List (List UInt8)->List S.Ac×Bool)(y:∀a,S.tt a<=300000->C9 (f a).1/\Bo (f a).1<=400*S.tt a)(a:List UInt8)(r:List (List UInt8))(z:S.tt (a::r)<=300000):Gl (S.A8 f (a::r)).1/\Eo (S.A8 f (a::r)).1<=400*S.tt ((a::r).take (S.A8 f (a::r)).2)/\1<=(S.A8 f (a::r)).1.kind/\(S.A8 f (a::r)).1.kind<=6:=by
 have A:=S.Tk f a r;have h:=S.JK a r _ A.1;have R:a.length+1<=300000:=by rw[S.Ho]at z;omega
 clear A;obtain⟨C,d⟩:=Qyy (S.A8 f (a::r));rw[d]at h ⊢;unfold S.A8 at d;dsimp only at d;split at d
 ·subst d;have s:=S.zh3 ((a::r).take (S.Da 4 (a::r)));have l:=S.Mt (a::r) (S.Da 4 (a::r));refine⟨O3 _ _ _ _ _ _ _ J J Y Z (by simp[C9]),?_,show (1:Int)<=3 by decide,show (3:Int)<=6 by decide⟩;show 120+6*0+96*(S.Hy ((a::r).take (S.Da 4 (a::r)))).length+0<=400*S.tt ((a::r).take (S.Da 4 (a::r)));have j:a.length+1<=S.tt ((a::r).take (S.Da 4 (a::r))):=h;omega
 split at d
 ·subst d;refine⟨O3 _ _ _ _ _ _ _ J J Y Y (by simp[C9]),?_,show (1:Int)<=4 by decide,show (4:Int)<=6 by decide⟩;have j:a.length+1<=S.tt ((a::r).take 1):=h;show 120+6*0+96*0+0<=400*S.tt ((a::r).take 1);omega
 split at d
 ·subst d;have s:=S.Xc a;have l:=S.XB a;refine⟨O3 _ _ _ _ _ _ _ Z Z Y Z (by simp[C9]),?_,show (1:Int)<=2 by decide,show (2:Int)<=6 by decide⟩;have j:a.length+1<=S.tt ((a::r).take 1):=h;show 120+6*0+96*(S.Fp a).length+0<=400*S.tt ((a::r).take 1);omega
 split at d
 ·subst d;have s:=S.zb5 a;have j:=S.zep (S.Bp a).ind (r.take (S.Ev (S.Bp a).mark (S.Bp a).width r));obtain⟨g,k⟩:=Qyy (S.Ev (S.Bp a).mark (S.Bp a).width r);have L:g<=r.length:=by rw[<-k];exact S.YA _ _ _
  have e:(S.Km (S.Bp a) (a::r))=(.mk 3 0 (S.Bp a).info (S.Ef (S.Bp a).ind (r.take g)) false [],min (g+1+1) (r.length+1)):=by
   unfold S.Km;simp only[List.tail_cons,Qd];rw[k]
  rw[k]at j;rw[e]at h ⊢;have m:S.tt ((a::r).take (g+1))<=S.tt ((a::r).take (min (g+1+1) (r.length+1))):=S.Uo _ _ _ Z;rw[Qz,S.Ho]at m;have t:=S.Mt (a::r) (min (g+1+1) (r.length+1));refine⟨O3 _ _ _ _ _ _ _ J J Z Z (by simp[C9]),?_,show (1:Int)<=3 by decide,show (3:Int)<=6 by decide⟩;simp only[Eo,Bo];omega
 split at d
 ·rename_i m;subst d;have k:=S.MX a r m;have l:=S.Mt (a::r) (S.Bn (a::r)).length;have H:=y (S.Bn (a::r)) Z;refine⟨O3 _ _ _ _ _ _ _ J J Y Y H.1,?_,show (1:Int)<=5 by decide,show (5:Int)<=6 by decide⟩;simp only[Eo,Qi];omega
 split at d
 ·rename_i t;subst d;rw[S.Lp];have u:=zfq f y (S.Ae a).kind (a::r).length (a::r).length a r t z;rw[show min (a::r).length 1=1 by simp]at u;have N:=S.TB a;refine⟨O3 _ _ _ _ _ _ _ Z Z Y Y u.1,?_,show (1:Int)<=6 by decide,show (6:Int)<=6 by decide⟩;simp only[Eo,Qi];omega
 subst d;have v:=S.Vr (a::r);have l:=S.Mt (a::r) (S.Cr (a::r)).2;have o:(S.Cr (a::r)).1.info=[]/\1<=(S.Cr (a::r)).1.kind/\(S.Cr (a::r)).1.kind<=2/\0<=(S.Cr (a::r)).1.n/\(S.Cr (a::r)).1.n<=2:=by
  unfold S.Cr;dsimp only;split
  ·exact⟨rfl,show (1:Int)<=1 by decide,show (1:Int)<=2 by decide,show (0:Int)<=0 by decide,show (0:Int)<=2 by decide⟩
  rename_i p _;have:=S.NV p;split
  ·exact⟨rfl,show (1:Int)<=2 by decide,show (2:Int)<=2 by decide,by show (0:Int)<=((S.Ez p:Nat):Int);omega,by show ((S.Ez p:Nat):Int)<=2;omega⟩
  exact⟨rfl,show (1:Int)<=1 by decide,show (1:Int)<=2 by decide,show (0:Int)<=0 by decide,show (0:Int)<=2 by decide⟩
 obtain⟨b,D⟩:=Qyy ((S.Cr (a::r)).1);rw[D]at v o ⊢;have q:=N7 b;obtain⟨aa,K,n,i,W,T,Ab⟩:=b;obtain⟨G,x⟩:=v;simp only[S.Ac.text,S.Ac.Ab,S.Ac.info,S.Ac.kind,S.Ac.n]at G x o q;subst x;obtain⟨E,F,M,P,Q⟩:=o;subst E;refine⟨O3 _ _ _ _ _ _ _ Z Z Y Z (by simp[C9]),?_,F,by show K<=6;omega⟩;rw[q];simp only[Qi,Bo];omega
theorem zn3 (g:List (List UInt8)->List S.Ac×Bool)(o:∀a,S.tt a<=300000->C9 (g a).1/\Bo (g a).1<=400*S.tt a)(j h:Nat)(row:List (List UInt8))(p:S.tt row<=300000):C9 (S.rowFrom g j h row).1/\Bo (S.rowFrom g j h row).1<=400*S.tt row/\∀b∈(S.rowFrom g j h row).1,1<=b.kind/\b.kind<=6:=by
 induction h generalizing row with
 |zero=>simp[S.rowFrom,Bo,C9]
 |succ h r=>
  cases row with
  |nil=>rw[S.K6];simp[Bo,C9]
  |cons a f=>
   rw[S.Mf _ _ _ _ Y];have k:=znh g o a f p;obtain⟨d,q⟩:=Qyy ((S.A8 g (a::f)).2);rw[q]at k ⊢;have s:=S.L6 (a::f) (d+S.Az ((a::f).drop d));have m:=r ((a::f).drop (d+S.Az ((a::f).drop d))) Z;have t:=S.Uo (a::f) d (d+S.Az ((a::f).drop d)) Z;dsimp only;refine⟨?_,?_,?_⟩;·simp only[C9];exact⟨(RL _ _).2 k.1,m.1⟩
   ·simp only[Bo,Yl];omega
   intro b l;rcases Sc.1 l with rfl|l
   ·rw[S.Ac.Vq];exact k.2.2
   exact m.2.2 b l
theorem Td (a:Nat)(row:List (List UInt8))(k:S.tt row<=300000):C9 (S.Ag a row).1/\Bo (S.Ag a row).1<=400*S.tt row/\∀b∈(S.Ag a row).1,1<=b.kind/\b.kind<=6:=by
 induction a generalizing row with
 |zero=>simp[S.Ag,Bo,C9]
 |succ a g=>
  rw[show S.Ag (a+1) row=S.rowFrom (S.Ag a) row.length row.length (row.drop (S.Az row)) from rfl];have j:=S.L6 row (S.Az row);have d:=zn3 (S.Ag a) (λh f=>⟨(g h f).1,(g h f).2.1⟩) row.length row.length (row.drop (S.Az row)) Z;exact⟨d.1,Z,d.2.2⟩
theorem ZU (d:Bool)(b:S.Ac)(a:1<=b.kind/\b.kind<=6):Gs Bg d b≠[]:=by
 obtain⟨j,f,n,i,h,g,Ab⟩:=b;simp only[S.Ac.kind]at a;rw[LK];(repeat' split)<;>first|omega|simp
theorem ZM (d:Bool)(a:List S.Ac)(g:a≠[])(f:∀b∈a,1<=b.kind/\b.kind<=6):Cy Bg d a≠[]:=by
 cases a with
 |nil=>exact absurd rfl g
 |cons b h=>
  simp only[Cy];intro e;exact ZU d b (f b Y) (List.append_eq_nil_iff.1 e).1
noncomputable def M8 (l:List UInt8):List UInt8:=Cy Bg false (S.Ag (l.length+1) (S.Aw l)).1
theorem zh0 (b:Nat)(a:So)(d:Nat)(f:Bool)(w:Sw):Calls prog 71 #[.pointer (some b),.slice a 0 d,f] w λe g=>e=.returned (.tuple #[])/\g=w:=by
 go_enter func71,ntmps71;go_wp2;refine wp_loop_rounds 1 ?_;rw[rounds_succ];go_wp2;go_end0;exact⟨rfl,rfl⟩
theorem MI (A:Nat->Prop)(o:So)(q p:Nat)(a:List S.Ac)(w:Sw)(t:∀N,A N->N<w)(m:Co w A (.slice o q p) a)(C:Cv w w)(D:C9 a)(F:Bo a<=1000000000)(E:∀b∈a,1<=b.kind/\b.kind<=6):Calls prog 55 #[.slice o q p] w λe T=>e=.returned (.string (S.B (Cy Bg false a)))/\Below w w T:=by
 obtain⟨d,g⟩:=Qzz (w.alloc (.cells #[.pointer none,Sx] 124));have v:Kn w w.heap.size [] d:=by rw[g];exact zg1 w
 have H:d.heap[w.heap.size]?=some (.cells #[.pointer none,Sx] 124 (0,0)):=by rw[g];exact Ak _ _
 have h:Below w w d:=by rw[g];exact Sr.alloc (Qc _) _
 have L:=h.size;by_cases G:a=[]
 ·subst G;have Q:=(U5 m).1;subst Q;have u:=V (zh0 w o p false d);have l:=V (XV w d H);have y:=V g;have z:=V h;obtain⟨j,f⟩:=Qzz (S.B (Cy Bg false []));rw[<-f];have x:U (j=⟨#[]⟩):=V (by rw[f];rfl);clear g H v m h f E F D t C;go_enter func55,ntmps55;go_wp2_with fail
  rw[<-y.q];apply u.m;rintro e M⟨rfl,rfl⟩;go_wp2_with fail
  apply l.m;rintro e W⟨rfl,k⟩;have r:=V k;clear k;go_wp2;go_ret;exact⟨by rw[x.q];rfl,z.q.trans (r.q.mono L)⟩
 have K:=ZM false a G E;have u:=V (zev (Bo a) a (Qc _) w w A w o q p false [] d t m h (C.below h) v L D (by simpa using F));have R:=V K;have y:=V g;have z:=V h;obtain⟨j,f⟩:=Qzz (S.B (Cy Bg false a));rw[<-f];have x:=V f;clear g H v m h K G f E F D t C;go_enter func55,ntmps55;go_wp2_with fail
 rw[<-y.q];apply u.m;rintro e M⟨rfl,s⟩;have l:=V (pstring w w _ M s.1 (by simpa using R.q));rw[SY]at l;have P:=V s.2.1;clear s;go_wp2_with fail
 apply l.m;rintro e W⟨rfl,k⟩;have r:=V k;clear k;go_wp2;go_ret;exact⟨by rw[x.q];rfl,z.q.trans (P.q.trans r.q)⟩
theorem Cv.mono {B a:Nat}{w:Sw}(f:Cv B w)(o:B<=a):Cv a w:=by
 obtain⟨g,⟨k,l⟩,h,d,j,m⟩:=f;exact⟨g,⟨Z,Z⟩,h,d,j,Z⟩
theorem zmm (s:Sb)(w:Sw)(A:s.size<=1500)(p:Cv w w):Calls prog 32 #[s] w λe k=>e=.returned (.tuple #[(S.B (M8 s)),O])/\Below w w k:=by
 have u:=V (CG Uz s w Z p.1);have q:=Td (s.size+1) (S.Aw s) (by have:=S.L8 s;rw[S.lda]at this;omega);have t:=S.L8 s;rw[S.lda]at t;obtain⟨l,o⟩:=Qzz (S.B (M8 s));rw[<-o];have v:=V o;have y:U (∀f h g d,Below w w d->Co d (λr=>w.heap.size<=r/\r<d.heap.size) (.slice f h g) (S.Ag (s.size+1) (S.Aw s)).1->Calls prog 55 #[.slice f h g] d λe k=>e=.returned l/\U (Below w w k)):=V (λf h g d a j=>by
  have:=MI _ f h g _ d (λr z=>z.2) j ((p.below a).mono a.size) q.1 Z q.2.2;refine this.mono ?_;rintro e k⟨rfl,m⟩;refine⟨?_,V (a.trans (m.mono a.size))⟩;rw[v.q,M8,S.lda])
 have C:¬(1500:Int)<(s.size:Int):=Z;clear q t o p;go_enter func32,ntmps32;go_wp2_with fail
 apply u.m;rintro e d⟨D,rfl,a,j⟩;obtain⟨f,h,g,rfl⟩:=a.form;have x:=V (y.q f h g d j a);clear a j;go_wp2_with fail
 apply x.m;rintro e E⟨rfl,m⟩;go_wp2;go_ret2;exact⟨rfl,m.q⟩
theorem zfu (s:Sb)(w:Sw)(d:1500<s.size):Calls prog 32 #[s] w λe a=>e=.returned (.tuple #[(),(1:Int)])/\a=w:=by
 have f:(1500:Int)<(s.size:Int):=Z;go_enter func32,ntmps32;go_wp2;go_ret2;exact⟨rfl,rfl⟩
structure Tl where
 level:Int
 text:List UInt8
 line:Int
def Cc (a:Tl):List Value:=[.int .i64 a.level,.string (S.B a.text),.int .i64 a.line]
def Cb (l:List Tl):List Value:=(l.map Cc).flatten
theorem GL (l:List Tl)(a:Tl):Cb (l++[a])=Cb l++Cc a:=by simp[Cb]
def Bw (B:Nat)(a:So)(d:Nat)(l:List Tl)(w:Sw):Prop:=w.ownsRow B 71 3 (.slice a l.length d) l.length (Cb l)
theorem Bw.below {B:Nat}{a:So}{d:Nat}{l:List Tl}{w w':Sw}(f:Bw B a d l w)(g:Below w w w'):Bw B a d l w':=
 World.ownsRow.kept f (below_grown g) (by
  cases f:(Value.slice a l.length d).ownBlock with
  |none=>exact .inl rfl
  |some h=>exact .inr Y)
def KV (B:Nat)(own:Option Nat)(l:List Tl)(w:Sw)(e:Ending)(w':Sw):Prop:=∃a d,e=.returned (.slice a l.length d)/\Bw B a d l w'/\w.grownBy w' own/\∀f,(Value.slice a l.length d).ownBlock=some f->own=some f\/w.heap.size<=f
theorem Tryz.Wp:(prog.info? 71).map (λi=>(i.zero,i.size,i.bytes))=some (some (.agg #[O,(),O]),3,32):=Sk
mutual
noncomputable def Er (z:Int):S.Ac->List Tl
 |.at_ a d n _ g _ Ab=>(if d=2 then [⟨n,Dc (Ey g),z+a⟩]else [])++Bf (z+a) Ab
noncomputable def Bf (z:Int):List S.Ac->List Tl
 |[]=>[]
 |b::f=>Er z b++Bf z f
end
theorem CO (z:Int)(a b:List S.Ac):Bf z (a++b)=Bf z a++Bf z b:=by
 induction a with
 |nil=>simp[Bf]
 |cons f g d=>simp only[List.cons_append,Bf,d,Qp]
theorem KF (z:Int)(a:List S.Ac)(k:Nat)(t:S.Ac)(d:a[k]?=some t):Bf z (a.take (k+1))=Bf z (a.take k)++Er z t:=by
 rw[Sv,d,CO];simp[Bf]
mutual
def Lj:S.Ac->Prop
 |.at_ a _ _ _ _ _ Ab=>0<=a/\a<=300000/\Ee Ab
def Ee:List S.Ac->Prop
 |[]=>True
 |b::d=>Lj b/\Ee d
end
theorem BI (f:List S.Ac)(d:Ee f)(i:Nat)(t:S.Ac)(a:f[i]?=some t):Lj t:=by
 induction f generalizing i with
 |nil=>simp at a
 |cons b h g=>
  simp only[Ee]at d;cases i with
  |zero=>simp at a;subst a;exact d.1
  |succ i=>exact g d.2 i (by simpa using a)
theorem zm2 (q:List (List UInt8)->List S.Ac×Bool)(v:∀s,S.tt s<=300000->Ee (q s).1)(kind:UInt8)(f h:Nat)(z:f<=300000)(l:List UInt8)(r:List (List UInt8))(u:(S.Ae l).ok=true)(D:S.tt (l::r)<=300000):Ee (S.Bt q kind f h (S.Ae l) (l::r)).1:=by
 induction h generalizing l r with
 |zero=>simp[S.Bt,Ee]
 |succ h y=>
  have A:=S.Yy l r u;have C:=S.Mt (l::r) (S.Ay (S.Ae l) (l::r)).length;have k:=v (S.Ay (S.Ae l) (l::r)) Z;rw[S.Kv];obtain⟨d,t⟩:=Qyy ((S.Ay (S.Ae l) (l::r)).length+S.Az ((l::r).drop (S.Ay (S.Ae l) (l::r)).length));rw[t];have g:(0:Int)<=((f-(l::r).length:Nat):Int)/\((f-(l::r).length:Nat):Int)<=300000:=Z;by_cases a:(S.Cj kind ((l::r).drop d)).ok=true
  ·rw[if_pos a];cases j:(l::r).drop d with
   |nil=>rw[j]at a;simp[S.Cj]at a
   |cons o p=>
    rw[j]at a;have m:=S.O6 kind o p a;have x:=S.L6 (l::r) d;rw[j]at x;have:=y o p m.2.2 Z;rw[m.1];simp only[Ee,Lj];exact⟨⟨g.1,g.2,k⟩,this⟩
  rw[if_neg a];simp only[Ee,Lj];exact⟨⟨g.1,g.2,k⟩,trivial⟩
theorem zid (d:List (List UInt8)->List S.Ac×Bool)(f:∀a,S.tt a<=300000->Ee (d a).1)(a:List UInt8)(r:List (List UInt8))(g:S.tt (a::r)<=300000):Ee (S.A8 d (a::r)).1.Ab:=by
 have j:(a::r).length<=300000:=by unfold S.tt at g;omega
 unfold S.A8;dsimp only;split
 ·simp[S.Js,S.Ac.Ab,Ee]
 split
 ·simp[S.Ac.Ab,Ee]
 split
 ·simp[S.Ac.Ab,Ee]
 split
 ·simp[S.Km,S.Ac.Ab,Ee]
 split
 ·have k:=S.BK (a::r);have l:=S.Mt (a::r) (S.Bn (a::r)).length;exact f _ Z
 split
 ·rename_i h;rw[S.Lp];exact zm2 d f _ _ _ j a r h g
 rw[(S.Vr (a::r)).2];simp[Ee]
theorem EP (z:Int)(b:S.Ac)(d:0<=z)(f:z<=300000)(a:Ee b.Ab):Lj (b.put z):=by
 cases b;simp only[S.Ac.put,Lj];exact⟨d,f,a⟩
theorem za5 (f:List (List UInt8)->List S.Ac×Bool)(l:∀a,S.tt a<=300000->Ee (f a).1)(h g:Nat)(q:h<=300000)(row:List (List UInt8))(m:S.tt row<=300000):Ee (S.rowFrom f h g row).1:=by
 induction g generalizing row with
 |zero=>simp[S.rowFrom,Ee]
 |succ g o=>
  cases row with
  |nil=>rw[S.K6];simp[Ee]
  |cons a d=>
   rw[S.Mf _ _ _ _ Y];have j:=zid f l a d m;have p:=S.L6 (a::d) ((S.A8 f (a::d)).2+S.Az ((a::d).drop (S.A8 f (a::d)).2));have k:=o ((a::d).drop ((S.A8 f (a::d)).2+S.Az ((a::d).drop (S.A8 f (a::d)).2))) Z;simp only[Ee];exact⟨EP _ _ Z Z j,k⟩
theorem DI (a:Nat)(row:List (List UInt8))(d:S.tt row<=300000):Ee (S.Ag a row).1:=by
 induction a generalizing row with
 |zero=>simp[S.Ag,Ee]
 |succ a g=>
  rw[show S.Ag (a+1) row=S.rowFrom (S.Ag a) row.length row.length (row.drop (S.Az row)) from rfl];have j:=S.L6 row (S.Az row);exact za5 (S.Ag a) (λh f=>g h f) _ _ (by unfold S.tt at d;omega) _ Z
theorem Bw.alloc {B:Nat}{a:So}{d:Nat}{l:List Tl}{w:Sw}(g:Bw B a d l w)(f:Obj):Bw B a d l (w.alloc f):=World.ownsRow.alloc g f
theorem zkx (c:List UInt8)(a:c.length<=300000):Ca (Ey c)<=1000000000:=by have:=Y1 c;omega
theorem OM (N:Nat):∀(d:List S.Ac),Bo d<=N->∀(B:Nat) (a1:Nat->Prop) (ab:Sw) (b3:So) (b5 b4:Nat) (x:So) (z:Nat) (k:List Tl) (f:Int) (w:Sw),(∀c2,a1 c2->c2<B)->Co ab a1 (.slice b3 b5 b4) d->Cv B ab->Below B ab w->B<=w.heap.size->Bw B x z k w->C9 d->Ee d->0<=f->f+300000*Bo d<=1000000000000000->(k++Bf f d).length<=1000000 ->
  Calls prog 59 #[.slice x k.length z,.slice b3 b5 b4,f] w (KV B (Value.slice x k.length z).ownBlock (k++Bf f d) w):=by
 induction N using Nat.strongRecOn with
 |_ N c0=>
 intro d cb B a1 ab b3 b5 b4 x z k f w b8 cw ch cg ca bv cj co ek el cm;obtain⟨i0,di,dj,dk,dl⟩:=info_parts Tryz.Wp;obtain⟨dn,cx⟩:=U5 cw;have eh:=X9 d;have dy:=V cx;have dg:=V cj;have dq:=V co;have dc:=V cg;have ci:=V ch;have d0:=V c0;have da:=V cb;have cn:=V cm;have du:=V bv;have dt:=V bv.lt;clear cw cx cj co cg ch c0 cm bv cb;subst dn;go_enter func59,ntmps59;go_wp2;go_loopw [0,8,9,12] (λd3 _ _ i wr=>∃(a:Nat) (r:So) (s bm:Nat),a<=d.length/\i=.int .i64 a/\d3=.slice r bm s/\U (bm=(k++Bf f (d.take a)).length/\Bw B r s (k++Bf f (d.take a)) wr/\w.grownBy wr (Value.slice x k.length z).ownBlock/\∀l,(Value.slice r (k++Bf f (d.take a)).length s).ownBlock=some l->(Value.slice x k.length z).ownBlock=some l\/w.heap.size<=l)) (λ_ _ _ i _=>d.length-(intOf i).toNat)
 case atStart=>
  refine⟨0,x,z,k.length,Qt _,rfl,rfl,V ⟨by simp[Bf],?_,World.grownBy.refl _ _,?_⟩⟩;·simpa [Bf]using du.q
  intro l bq;exact .inl (by simpa [Value.ownBlock,Bf]using bq)
 case round=>
  obtain⟨a,r,s,bm,bs,rfl,rfl,cv⟩:=hrel;obtain⟨au,D,L,M⟩:=cv.q;clear cv;have bg:Below B w wr:=Sqi (Below.refl B w) L ca (λQ bz=>(dt.q Q bz).1);by_cases dr:a<d.length
  ·obtain⟨G,aw⟩:∃G,d[a]?=some G:=⟨d[a],Qg dr⟩;obtain⟨l,b6,bj,bl,bk,em,cl,bq,av,a2,a3,a4,a5,a6,a7,a8,a9⟩:=dy.q a G aw;obtain⟨ae,ah,af,rfl⟩:=av.form;have dp:=Ls d (a+1);rw[Rw d a G aw]at dp;have ar:=Rm d dg.q a G aw;have cp:=BI d dq.q a G aw;have aq:=dc.q.trans bg;have dh:=b8 l bq;have C:∀Q,wr.cell? ⟨l,b6+a*8+Q,none⟩=ab.cell? ⟨l,b6+a*8+Q,none⟩:=λQ=>aq.cell (p:=⟨l,b6+a*8+Q,none⟩) dh;have E:k++Bf f (d.take (a+1))=(k++Bf f (d.take a))++Er f G:=by rw[KF f d a G aw,Qp]
   have T:((k++Bf f (d.take a))++Er f G).length<=1000000:=by
    rw[<-E];have A:=cn.q;have ag:Bf f d=Bf f (d.take (a+1))++Bf f (d.drop (a+1)):=(by rw[<-CO,Sy]);rw[ag]at A;simp only[Qa]at A ⊢;omega
   obtain⟨v,ax,n,info,text,Ai,Ab⟩:=G;simp only[S.Ac.kind,S.Ac.line,S.Ac.n,S.Ac.info,S.Ac.text,S.Ac.Ai,S.Ac.Ab]at a2 a3 a4 a5 a6 a7 a8 a9 av;simp only[Gl]at ar;simp only[Lj]at cp;simp only[Er]at T E;have c6:=(C 0).trans a2;have d8:=(C 1).trans a3;have d9:=(C 2).trans a4;have ea:=(C 3).trans a5;have eb:=(C 4).trans a6;have ec:=(C 5).trans a7;have ed:=(C 6).trans a8;have ee:=(C 7).trans a9;rw[SL]at c6;have dv:=N7 (.at_ v ax n info text Ai Ab);simp only[S.Ac.info,S.Ac.text,S.Ac.Ab]at dv;have bw:Bo Ab<N:=by
    have:=da.q;omega
   obtain⟨h,bo⟩:=Qyy (k++Bf f (d.take a));rw[bo]at au D M T E;subst au;have bn:B<=wr:=Qj ca L.size;have ej:IntKind.i64.wrap (f+v)=f+v:=by rw[Sqe];omega
   obtain⟨q,bf⟩:=Qzz (Obj.cells #[ax,v,.slice bj bl bk,n,(S.B info),(S.B text),Ai,.slice ae ah af] 110);have P:(wr.alloc q).heap[wr.heap.size]?=some (.cells #[ax,v,.slice bj bl bk,n,(S.B info),(S.B text),Ai,.slice ae ah af] 110 (0,0)):=by rw[bf];exact Ak _ _
   have ap:Below wr wr (wr.alloc q):=Sr.alloc (Qc _) _
   have bi:U (∀(aj:So) (ak:Nat) (ac:List Tl) (o:Sw),ac++Bf (f+v) Ab=k++Bf f (d.take (a+1))->Bw B aj ak ac o->wr.grownBy o (Value.slice r h.length s).ownBlock->(∀t,(Value.slice aj ac.length ak).ownBlock=some t->(Value.slice r h.length s).ownBlock=some t\/wr.heap.size<=t) ->
     Calls prog 59 #[.slice aj ac.length ak,.slice ae ah af,(f+v:Int)] o λe az=>∃H K ai,e=.returned (.slice H ai K)/\U (ai=(k++Bf f (d.take (a+1))).length/\Bw B H K (k++Bf f (d.take (a+1))) az/\w.grownBy az (Value.slice x k.length z).ownBlock/\∀l,(Value.slice H (k++Bf f (d.take (a+1))).length K).ownBlock=some l->(Value.slice x k.length z).ownBlock=some l\/w.heap.size<=l)):=V (λaj ak ac o A ag R u=>by
    have bu:=D.lt;have dd:Below B ab o:=aq.trans (Sqi (Below.refl B wr) R bn (λQ bz=>(bu Q bz).1));have:=d0.q (Bo Ab) bw Ab (Qc _) B a1 ab ae ah af aj ak ac (f+v) o b8 av ci.q dd (Qj bn R.size) ag ar.2.2.2.2 cp.2.2 Z Z (by
     rw[A];have bc:=cn.q;have c7:Bf f d=Bf f (d.take (a+1))++Bf f (d.drop (a+1)):=(by rw[<-CO,Sy]);rw[c7]at bc;simp only[Qa]at bc ⊢;omega)
    refine this.mono ?_;rintro e az⟨H,K,rfl,bb,al,am⟩;rw[A]at bb am;refine⟨H,K,_,rfl,V ⟨by rw[A],bb,Jk L (Jk R al u) M,λt br=>?_⟩⟩;rcases am t br with j|j
    ·rcases u t j with j|j
     ·exact M t j
     exact .inr (Qj L.size j)
    exact .inr (Qj (Qj L.size R.size) j))
   have ce:=V bf;by_cases bh:ax=2
   ·subst bh;rw[if_pos rfl]at E T;obtain⟨ay,bx⟩:=Qyy (S.B (Dc (Ey text)));obtain⟨y,b0⟩:∃y:Tl,y=⟨n,Dc (Ey text),f+v⟩:=⟨_,rfl⟩;rw[<-b0]at E T;have R:U (Cc y=[.int .i64 n,.string ay,.int .i64 (f+v)]):=V (by rw[b0,<-bx];rfl);have db:wr.heap.size<(wr.alloc q).heap.size:=Y;have ao:U (∀m,After (wr.alloc q) m->m.heap[wr.heap.size]?=some (.cells #[(2:Int),v,.slice bj bl bk,n,(S.B info),(S.B text),Ai,.slice ae ah af] 110 (0,0))):=V (λm j=>(j.block _ db).trans P);have c3:=X P 0 _ rfl;have eo:=X P 1 _ rfl;have d4:=X P 3 _ rfl;have d5:=X P 5 _ rfl;have cd:U (∀a0,After (wr.alloc q) a0->Calls prog 80 #[(S.B text)] a0 λe m=>∃F kl,e=.returned (.agg #[.pointer F,.pointer kl])/\(m.cell? (wr 3)=some (.int .i64 n)/\m.cell? (wr 5)=some (.string (S.B text)))/\U (Ce m (Tag m) F (Ey text)/\After (wr.alloc q) m)):=V (λa0 b2=>by
     have de:Cv B a0:=ci.q.below (aq.trans ((ap.trans (b2.mono Y)).mono bn));have:=GA (S.B text) a0 (by rw[S.Bc];omega) de.1;rw[S.Bq]at this;refine this.mono ?_;rintro e m⟨F,kl,rfl,bb,al⟩;have u:After (wr.alloc q) m:=Below.trans b2 (al.mono b2.size);exact⟨F,kl,rfl,⟨X (ao.q m u) 3 _ rfl,X (ao.q m u) 5 _ rfl⟩,V ⟨bb,u⟩⟩)
    have cc:U (∀F kl m,Ce m (Tag m) F (Ey text)/\After (wr.alloc q) m->Calls prog 79 #[.agg #[.pointer F,.pointer kl]] m λe g=>e=.returned ay/\(g.cell? (wr 3)=some (.int .i64 n)/\g.cell? (wr 5)=some (.string (S.B text)))/\(wr:Nat)+1<=g.heap.size/\U (After (wr.alloc q) g)):=V (λF kl m j=>by
     refine(MW (Ey text) (Tag m) F kl m (zkx text ar.2.2.2.1) j.1).mono ?_;rintro e g⟨rfl,al⟩;have u:After (wr.alloc q) g:=Below.trans j.2 (al.mono j.2.size);exact⟨by rw[bx],⟨X (ao.q g u) 3 _ rfl,X (ao.q g u) 5 _ rfl⟩,by have:=u.size;simpa using this,V u⟩)
    have ef:h.length+1<=1000000:=(by simp only[Qa,List.length_singleton]at T;omega);have cu:U (∀g W,After (wr.alloc q) g->(g.alloc W).ownsRow B 71 3 (.slice r h.length s) h.length (Cb h)):=V (λg W j=>((D.alloc q).below j).alloc W);have cr:U (∀(g:Sw) a aa,(Cc y)[a]?=some aa->(g.alloc (.cells #[n,ay,(f+v:Int)] 71)).cell? ((⟨g.heap.size,0,none⟩:Addr).add a)=some aa):=V (λg a aa bs=>World.news_of_block (Ak _ _) a aa (by rw[R.q]at bs;exact bs));have cs:U (∀aa∈Cc y,aa.oneCell'=true):=V (by
     intro aa b1;rw[R.q]at b1;simp at b1;rcases b1 with rfl|rfl|rfl<;>rfl)
    have bu:=V D.lt;have cq:U (∀g W o l ba,After (wr.alloc q) g->(g.alloc W).grownBy o (Value.slice r h.length s).ownBlock->o.ownsRow B 71 3 (.slice (some ⟨l,0,none⟩) (h.length+1) ba) (h.length+1) (Cb h++Cc y)->((Value.slice r h.length s).ownBlock=some l\/l=g.heap.size+1) ->
      (o.cell? (wr 3)=some (.int .i64 n)/\o.cell? (wr 5)=some (.string (S.B text)))/\U (o.heap[wr.heap.size]?=some (.cells #[(2:Int),v,.slice bj bl bk,n,(S.B info),(S.B text),Ai,.slice ae ah af] 110 (0,0))/\Bw B (some ⟨l,0,none⟩) ba (h++[y]) o/\wr.grownBy o (Value.slice r h.length s).ownBlock/\∀t,(Value.slice (some ⟨l,0,none⟩) (h++[y]).length ba).ownBlock=some t->(Value.slice r h.length s).ownBlock=some t\/wr.heap.size<=t)):=V (λg W o l ba A ag u bc=>by
     have ei:=A.size;have dw:(g.alloc W).heap.size=g.heap.size+1:=Y;have bt:o.heap[wr.heap.size]?=_:=(ag.block wr (by rw[dw];omega) (λe=>by have:=(bu.q _ e.symm).2;omega)).trans ((Sqj _ _ _ Z).trans (ao.q g A));refine⟨⟨X bt 3 _ rfl,X bt 5 _ rfl⟩,V ⟨bt,by unfold Bw;rw[GL,Qa];exact u,?_,?_⟩⟩;·exact Jk (Jk (Tn (ap.trans (A.mono Y)) _) (World.grownBy_alloc _ _ _) (λl j=>.inl j)) ag (λl j=>.inl j)
     intro t br;have:l=t:=(by simpa [Value.ownBlock]using br);subst this;rcases bc with j|j
     ·exact .inl j
     exact .inr Z)
    clear a2 a3 a4 a5 a6 a7 a8 a9 C aq av ar bf bw P D L M T ap bo bg bx b0;have dx:=V E;clear E;subst cl;go_upto_region 6 with fail
    rw[<-ce.q];go_region_held3 (λc1=>c1.cell? (wr 3)=some (.int .i64 n)/\c1.cell? (wr 5)=some (.string (S.B text)))
     (first|exact⟨d4,d5⟩|exact⟨d6,d7⟩|exact⟨d1,d2⟩|exact⟨c4,c5⟩|exact⟨Vh c4 cz _,Vh c5 cz _⟩)
     (first
      |(go_at_call 80;refine(cd.q _ (by first|exact Yr|exact Sr)).mono ?_;rintro e m⟨F,kl,rfl,⟨d6,d7⟩,c9⟩)
      |(go_at_call 79;refine(cc.q _ _ _ c9.q).mono ?_;rintro e g⟨rfl,⟨c4,c5⟩,cz,b9⟩)
      |(refine step_append_lies _ I _ _ 65 I B 71 i0 (.agg #[O,(),O]) 3 32 underlying65 di dj dk dl I Z (.slice r h.length s) h.length (Cb h) I (cu.q _ _ b9.q) ⟨g.heap.size,0,none⟩ 1 1 (Cc y) I I (cr.q _) cs.q Z (by unfold maxLen;omega) Z (by simp;omega) (g.heap.size+1) Y ?_;intro am b7 o ct ck cf ds;obtain⟨⟨d1,d2⟩,bd⟩:=cq.q g _ o am b7 b9.q ck ct cf))
    all_goals
     have cy:=bd.q.1;have en:=X cy 7 _ rfl;have an:=bi.q (some am) b7 (h++[y]) o (by rw[dx.q,Qp]) bd.q.2.1 bd.q.2.2.1 bd.q.2.2.2;rw[show (h++[y]).length=h.length+1 by simp]at an;have c8:=V an;clear an cy ct ck cf ds bi cd cc cq cu cr cs;go_wp2_with (fail);apply c8.m;rintro e az⟨H,K,ai,rfl,bp⟩;go_wp2;go_roundw
     case rel=>exact⟨a+1,H,K,ai,Z,by go_num,rfl,bp⟩
     case measure=>exact Sj
   rw[if_neg bh,SY]at E;have eg:(ax == 2)=false:=by rw[Qe];exact bh
   have c3:=X P 0 _ rfl;have an:=V (bi.q r s h (wr.alloc q) E.symm (D.alloc q) (Tn ap _) (λt j=>.inl j));clear a2 a3 a4 a5 a6 a7 a8 a9 C aq av ar bf bw P D L M E T ap bi bh bo bg c3;subst cl;go_wp2_with (fail);rw[<-ce.q];apply an.m;rintro e az⟨H,K,ai,rfl,bp⟩;go_wp2;go_roundw
   case rel=>exact⟨a+1,H,K,ai,Z,by go_num,rfl,bp⟩
   case measure=>exact Sj
  have dm:a=d.length:=Z;subst dm;rw[Qbl]at au D M;have df:U (KV B (Value.slice x k.length z).ownBlock (k++Bf f d) w (.returned (.slice r bm s)) wr):=V ⟨r,s,by rw[au],D,L,M⟩;clear au D L M bg;go_wp2;go_ret;exact df.q
noncomputable def Ih (l:List UInt8):List Tl:=Bf 0 (S.Ag (l.length+1) (S.Aw l)).1
theorem za4 (s:Sb)(w:Sw)(M:s.size<=1500)(u:Cv w w)(t:(Ih s).length<=1000000):Calls prog 39 #[s] w λe h=>∃B d f,e=.returned (.tuple #[.slice d (Ih s).length f,O])/\w.heap.size<=B/\Bw B d f (Ih s) h/\Below w w h:=by
 have D:=V (CG Uz s w Z u.1);have z:=S.L8 s;rw[S.lda]at z;have v:=Td (s.size+1) (S.Aw s) Z;have y:=DI (s.size+1) (S.Aw s) Z;obtain⟨m,r⟩:=Qzz (Ih s);rw[<-r]at t ⊢;have q:Bf 0 (S.Ag (s.size+1) (S.Aw s)).1=m:=by rw[r,Ih,S.lda]
 have F:U (∀j l k a,Below w w a->Co a (λx=>w.heap.size<=x/\x<a.heap.size) (.slice j l k) (S.Ag (s.size+1) (S.Aw s)).1->Calls prog 59 #[Sx,.slice j l k,O] a λe h=>∃d f,e=.returned (.slice d m.length f)/\U (Bw a.heap.size d f m h/\w.heap.size<=a.heap.size/\Below w w h)):=V (λj l k a g o=>by
  have:=OM (Bo (S.Ag (s.size+1) (S.Aw s)).1) _ (Qc _) a.heap.size _ a j l k none 0 [] 0 a (λx K=>K.2) o ((u.below g).mono g.size) Sr (Qc _) (Sqg _ _ _ _) v.1 y Z (by have:=v.2.1;omega) (by rw[SY,q];exact t);rw[SY,q]at this;refine this.mono ?_;rintro e h⟨d,f,rfl,A,C,_⟩;have G:Below a.heap.size a h:=Sqi Sr C (Qc _) (λL H=>by simp[Value.ownBlock]at H);exact⟨d,f,rfl,V ⟨A,g.size,g.trans (G.mono g.size)⟩⟩)
 have N:¬(1500:Int)<(s.size:Int):=Z;clear v z r u y q t;go_enter func39,ntmps39;go_wp2_with fail
 apply D.m;rintro e a⟨P,rfl,g,o⟩;obtain⟨j,l,k,rfl⟩:=g.form;have E:=V (F.q j l k a o g);clear g o;go_wp2_with fail
 apply E.m;rintro e Q⟨d,f,rfl,p⟩;go_wp2;go_ret2;exact⟨a.heap.size,d,f,rfl,p.q.2.1,p.q.1,p.q.2.2⟩
