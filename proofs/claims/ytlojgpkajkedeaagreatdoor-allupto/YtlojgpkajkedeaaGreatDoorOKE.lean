import Derived.Test.YtlojgpkajkedeaaGreatDoorOKA
set_option maxHeartbeats 0
set_option maxRecDepth 100000
namespace Go.Proofs.YtlojgpkajkedeaaGreatDoor
open Go.RowKit Go.Proofs.Tryz
def Dl (g k:Nat)(f:List (Nat×ByteArray))(n t:Nat)(w:Sw):Prop:=∃(h:Nat->Nat) (j:Nat->Value) (a:Nat->List Value),WS h g k j a f w/\a 0=f.map (λd=>.pointer (some d.1))/\a 1=f.map (λd=>.string d.2)/\(a 2).length=4*n/\(a 3).length=4*t
theorem Dl.below {a f n t:Nat}{d:List (Nat×ByteArray)}{w w':Sw}(h:Dl a f d n t w)(l:Below w w w'):Dl a f d n t w':=by
 obtain⟨g,o,m,j,k⟩:=h;exact⟨g,o,m,j.below l,k⟩
theorem Dl.lt {d a n t:Nat}{h:List (Nat×ByteArray)}{w:Sw}(g:Dl d a h n t w):a<w.heap.size/\d<=a:=by
 obtain⟨j,m,l,f,k⟩:=g;exact⟨f.lt,f.dw⟩
def FL (w w':Sw):Prop:=∀(a:Nat) (c:Array Value) (d:Nat×Nat),w.heap[a]?=some (.cells c 59 d)->w'.heap[a]?=w.heap[a]?
theorem Dl.RJ {z q n t:Nat}{ae:List (Nat×ByteArray)}{w y:Sw}(j:Dl z q ae n t w)(a7:n<=200000)(s:Below w w y)(B:Nat)(a:So)(A:Nat)(l:List Nd)(a5:w<=B)(W:Bl B a A l y)(G:l.length<=900000):Calls prog 50 #[.pointer (some (q 2)),.slice a l.length A] y λe m=>e=.returned (.tuple #[])/\U (Dl z q ae (n+1) t m/\Below z w m/\FL w m):=by
 obtain⟨r,o,k,h,al,D,am,E⟩:=j;have F:=h.below s;obtain⟨K,L,v⟩:=ownsRow_form (F.ro 2 Z);have hd:=F.hd;have aa:=F.ro 2 Z;rw[v]at hd aa;have ay:=h.lt;have av:=h.dw;have a3:Bl w a A l y:=by
  refine⟨W.1,?_⟩;rcases W.2 with j|⟨g,N,P,D,am,E⟩
  ·exact .inl j
  exact .inr ⟨g,N,P,D,Z,E⟩
 have au:∀g,(Value.slice K (k 2).length L).ownBlock=some g->g<w:=λg u=>((h.ro 2 Z).lt g (by rw[v];exact u)).2;have ap:∀g,(Value.slice K (k 2).length L).ownBlock=some g->r g=2+2:=λg u=>h.rk 2 Z g (by rw[v];exact u);refine(zli z q w n a A l K (k 2).length L (k 2) (o 0) (o 1) (o 3) y av Z s.size hd aa Z Z a3 G ay au (λe=>by have:=ap q e;have:=h.kb;omega)).mono ?_;rintro e m⟨rfl,aq⟩;obtain⟨x,M,ag,ah,Q,ai,aj,ak,R⟩:=aq.q;have a8:=s.size;have a9:=R.size;have H:∀f,f<w.heap.size->f≠q->(o 2).ownBlock≠some f->m.heap[f]?=w.heap[f]?:=λf d a1 C=>(aj f d a1 (by rw[<-v];exact C)).trans (s.block f d);have a2:FL w m:=λf c a4 d=>by
  refine H f (Qq.1 d).1 (λe=>?_) (λe=>?_)
  ·rw[e,h.hd]at d;injection d with d
   injection d with _ d _
   exact absurd d J
  rcases (h.ro 2 Z).2 with ⟨j,_⟩|⟨g,N,P,an,_,ao,_⟩
  ·rw[j]at e;simp[Value.ownBlock]at e
  rw[an]at e;obtain rfl:g=f:=by simpa [Value.ownBlock]using e
  rw[ao]at d;injection d with d
  injection d with _ d _
  exact absurd d J
 have T:∀g,x.ownBlock=some g->(o 2).ownBlock=some g\/w.heap.size<=g:=λg u=>by
  rcases ak g u with j|j
  ·exact .inl (by rw[v];exact j)
  exact .inr Z
 have a0:Moves (λf=>r f=0) (λp=>(r p=0/\x.ownBlock≠some p)) w m:=⟨Z,λf d G=>by
  have d:=d;have C:(o 2).ownBlock≠some f:=λe=>by have:=h.rk 2 Z f e;omega
  refine⟨⟨d,λe=>?_⟩,H f G (λe=>by have:=h.kb;rw[e]at d;omega) C⟩;rcases T f e with j|j
  ·exact C j
  omega⟩
 have az:∀i f,(k 2++M)[i]?=some f->Gd 5 (λp=>(r p=0/\x.ownBlock≠some p)) (1000000+((i / 4:Nat):Int)) f m:=λi f d=>by
  by_cases aw:i<(k 2).length
  ·rw[Qbd aw]at d;exact(h.nm i f d).move a0
  rw[Qu Z]at d;have a6:=(Qb.1 d).1;have ax:i / 4=n:=Z;rw[ax];exact(ai f (SN d)).move ⟨Qc _,λp ab _=>⟨⟨h.fr p ab.1,ab.2⟩,rfl⟩⟩
 obtain⟨af,ar⟩:=h.row 2 Z x (k 2++M) (λac=>if ac=2 then x else o ac) (λ_=>rfl) Z ag H (by rw[Qa,Q];exact ah) T (λ_=>az) (λe=>Z)
 exact⟨rfl,V ⟨⟨af,_,_,ar,al,D,by show (k 2++M).length=_;rw[Qa,Q];omega,E⟩,(s.mono Z).trans R,a2⟩⟩
theorem Dl.mkT {z q n t:Nat}{ac:List (Nat×ByteArray)}{w y:Sw}(j:Dl z q ac n t w)(a3:t<=200000)(s:Below w w y)(B:Nat)(a:So)(A:Nat)(l:List Tl)(a1:w<=B)(R:Bw B a A l y)(F:l.length<=900000):Calls prog 54 #[.pointer (some (q 2)),.slice a l.length A] y λe p=>e=.returned (.tuple #[])/\U (Dl z q ac n (t+1) p/\Below z w p):=by
 obtain⟨r,m,k,h,am,D,N,P⟩:=j;have E:=h.below s;obtain⟨G,H,v⟩:=ownsRow_form (E.ro 3 Z);have hd:=E.hd;have T:=E.ro 3 Z;rw[v]at hd T;have aw:=h.lt;have ar:=h.dw;have a0:Bw w a A l y:=by
  refine⟨R.1,?_⟩;rcases R.2 with j|⟨f,af,ag,D,N,P⟩
  ·exact .inl j
  exact .inr ⟨f,af,ag,D,Z,P⟩
 have aq:∀f,(Value.slice G (k 3).length H).ownBlock=some f->f<w:=λf u=>((h.ro 3 Z).lt f (by rw[v];exact u)).2;have an:∀f,(Value.slice G (k 3).length H).ownBlock=some f->r f=2+3:=λf u=>h.rk 3 Z f (by rw[v];exact u);refine(zai z q w t a A l G (k 3).length H (k 3) (m 0) (m 1) (m 2) y ar Z s.size hd T Z Z a0 F aw aq (λe=>by have:=an q e;have:=h.kb;omega)).mono ?_;rintro e p⟨rfl,ao⟩;obtain⟨x,K,ah,ai,L,aj,ak,al,M⟩:=ao.q;have a4:=s.size;have a5:=M.size;have W:∀d,d<w.heap.size->d≠q->(m 3).ownBlock≠some d->p.heap[d]?=w.heap[d]?:=λd g az C=>(ak d g az (by rw[<-v];exact C)).trans (s.block d g);have Q:∀f,x.ownBlock=some f->(m 3).ownBlock=some f\/w.heap.size<=f:=λf u=>by
  rcases al f u with j|j
  ·exact .inl (by rw[v];exact j)
  exact .inr Z
 have ay:Moves (λd=>r d=0) (λo=>(r o=0/\x.ownBlock≠some o)) w p:=⟨Z,λd g F=>by
  have g:=g;have C:(m 3).ownBlock≠some d:=λe=>by have:=h.rk 3 Z d e;omega
  refine⟨⟨g,λe=>?_⟩,W d F (λe=>by have:=h.kb;rw[e]at g;omega) C⟩;rcases Q d e with j|j
  ·exact C j
  omega⟩
 have ax:∀i d,(k 3++K)[i]?=some d->Gd 3 (λo=>(r o=0/\x.ownBlock≠some o)) (1000000+((i / 4:Nat):Int)) d p:=λi d g=>by
  by_cases au:i<(k 3).length
  ·rw[Qbd au]at g;exact(h.tm i d g).move ay
  rw[Qu Z]at g;have a2:=(Qb.1 g).1;have av:i / 4=t:=Z;rw[av];exact(aj d (SN g)).move ⟨Qc _,λo aa _=>⟨⟨h.fr o aa.1,aa.2⟩,rfl⟩⟩
 obtain⟨ae,ap⟩:=h.row 3 Z x (k 3++K) (λab=>if ab=3 then x else m ab) (λ_=>rfl) Z ah W (by rw[Qa,L];exact ai) Q (λe=>Z) (λ_=>ax)
 exact⟨rfl,V ⟨⟨ae,_,_,ap,am,D,N,by show (k 3++K).length=_;rw[Qa,L];omega⟩,(s.mono Z).trans M⟩⟩
theorem ze6 {r H n t:Nat}{ac:List (Nat×ByteArray)}(s:Sb)(w:Sw)(A:Env w)(N:Dl r H ac n t w)(R:n<=200000):Calls prog 24 #[.pointer (some (H 2)),s] w λe D=>e=.returned true/\U (Dl r H ac (n+1) t D/\Below r w D/\FL w D):=by
 have P:=V N;clear N;by_cases aa:s.size<=1500
 ·have o:=V (JV s w aa A);obtain⟨a,l⟩:=Qyy (Lr s);have ah:a.length<=900000:=by have:=OE s;rw[l,S.lda]at this;omega
  rw[l]at o;have ag:=V l;clear l A;go_enter func24,ntmps24;go_wp2_with fail
  apply o.m;rintro e g⟨q,u,v,rfl,ae,T,y⟩;have x:=V (zey s g aa);have W:=V T;have ai:=V y;have am:=y.size;clear T y;go_wp2_with fail
  apply x.m;rintro e d⟨K,L,M,ab,rfl,k⟩;have an:=k.q.2.2.1.size;have C:Ed 0 ab=a:=by
   rw[<-ag.q];exact zfo s ab (by rw[S.lda];exact k.q.2.2.2)
  have p:=k.q.2.2.1;have Q:Bl K L M a d:=by rw[<-C];exact k.q.2.1
  rw[C];have m:=V (GN q K u L v M a d (W.q.below p) Q Z);have aj:=V (ai.q.trans (p.mono am));have al:=V (W.q.below p);clear C p k Q;go_wp2_with fail
  apply m.m;rintro e E⟨rfl,f⟩;have ao:=f.size;have ak:=V (aj.q.trans (f.mono Z));have h:=V (P.q.RJ R ak.q q u v a ae (al.q.below f) ah);clear f;go_wp2_with fail
  apply h.m;rintro e F⟨rfl,z⟩;have j:=V (Ov 0 F);go_wp2_with fail
  apply j.m;rintro e G⟨rfl,rfl⟩;go_wp2_with fail
  apply j.m;rintro e G⟨rfl,rfl⟩;go_wp2;go_ret;exact⟨rfl,z⟩
 have o:=V (zhi s w Z);have x:=V (zmz s w Z);have m:=V (GN 0 0 none none 0 0 [] w (Bl.nil _ _) (Bl.nil _ _) Y);rw[Qi]at m;clear A;go_enter func24,ntmps24;go_wp2_with fail
 apply o.m;rintro e g⟨rfl,rfl⟩;go_wp2_with fail
 apply x.m;rintro e d⟨rfl,rfl⟩;go_wp2_with fail
 apply m.m;rintro e E⟨rfl,f⟩;have h:=P.q.RJ R f w none 0 [] (Qc _) (Bl.nil _ _) Y;rw[Qi]at h;have af:=V h;clear f h;go_wp2_with fail
 apply af.m;rintro e F⟨rfl,z⟩;have j:=V (Ov 1 F);go_wp2_with fail
 apply j.m;rintro e G⟨rfl,rfl⟩;go_wp2_with fail
 apply j.m;rintro e G⟨rfl,rfl⟩;go_wp2;go_ret;exact⟨rfl,z⟩
theorem ZO {o x n t:Nat}{M:List (Nat×ByteArray)}(s:Sb)(w:Sw)(K:Cv w w)(Q:Dl o x M n t w)(ao:t<=200000):Calls prog 30 #[.pointer (some (x 2)),s] w λe g=>e=.returned true/\U (Dl o x M n (t+1) g/\Below o w g):=by
 have R:U (∀(a:Sw) (B:Nat) (h:So) (j:Nat) (v:List Tl),Below w w a->w.heap.size<=B->Bw B h j v a->v.length<=900000->Calls prog 54 #[.pointer (some (x 2)),.slice h v.length j] a λe g=>e=.returned (.tuple #[])/\U (Dl o x M n (t+1) g/\Below o w g)):=V (λa B h j v ak ag ap an=>Q.mkT ao ak B h j v ag ap an);clear Q;by_cases L:s.size<=1500
 ·obtain⟨f,E⟩:=Qyy (Ih s);have W:=FP s (by rw[S.lda];exact L);have r:=za4 s w L K Z;have D:U (∀a,Calls prog 52 #[s] a λe g=>∃(B:Nat) (h:So) (j:Nat),e=.returned (.tuple #[.slice h f.length j,O])/\U (f.length<=900000/\a.heap.size<=B/\Bw B h j f g/\Below a.heap.size a g)):=V (λa=>by rw[<-E];exact IY s a L);rw[E]at r W;have aj:=V r;clear K E r;go_enter func30,ntmps30;go_wp2_with fail
  apply aj.m;rintro e l⟨z,A,C,rfl,ah,aa,G⟩;have ab:=V aa;have al:=V G;have ar:=G.size;clear aa G;go_wp2_with fail
  refine(D.q l).mono ?_;rintro e k⟨ac,ae,af,rfl,F⟩;have u:=F.q.2.2.2;have au:=u.size;have y:=V (Zl z ac A ae C af f k (ab.q.below u) F.q.2.2.1 Z);have am:=V (al.q.trans (u.mono ar));have aq:=V (ab.q.below u);clear u F;go_wp2_with fail
  apply y.m;rintro e m⟨rfl,d⟩;have av:=d.size;have T:=V (am.q.trans (d.mono Z));have p:=V (R.q m z A C f T.q ah (aq.q.below d) W);clear d;go_wp2_with fail
  apply p.m;rintro e N⟨rfl,H⟩;have q:=V (Ov 0 N);go_wp2_with fail
  apply q.m;rintro e P⟨rfl,rfl⟩;go_wp2_with fail
  apply q.m;rintro e P⟨rfl,rfl⟩;go_wp2;go_ret;exact⟨rfl,H⟩
 have r:=V (zkg s w Z);have D:=V (zh7 s w Z);have y:=V (Zl 0 0 none none 0 0 [] w (Sqg _ _ _ _) (Sqg _ _ _ _) Y);rw[Qi]at y;clear K;go_enter func30,ntmps30;go_wp2_with fail
 apply r.m;rintro e l⟨rfl,rfl⟩;go_wp2_with fail
 apply D.m;rintro e k⟨rfl,rfl⟩;go_wp2_with fail
 apply y.m;rintro e m⟨rfl,d⟩;have T:=V d;have p:=R.q m m none 0 [] d d.size (Sqg _ _ _ _) Y;rw[Qi]at p;have ai:=V p;clear d p;go_wp2_with fail
 apply ai.m;rintro e N⟨rfl,H⟩;have q:=V (Ov 1 N);go_wp2_with fail
 apply q.m;rintro e P⟨rfl,rfl⟩;go_wp2_with fail
 apply q.m;rintro e P⟨rfl,rfl⟩;go_wp2;go_ret;exact⟨rfl,H⟩
theorem FK (m:Int)(c:Int)(w:Sw)(h:0<m)(q:m<=1000000)(l : -9223372036854775808<=c)(o:c<=9223372036854775807):Calls prog 36 #[c,m] w λe k=>∃a:Nat,(a:Int)<m/\e=.returned a/\w=k:=by
 by_cases p:c<0
 ·obtain⟨a,d⟩:∃a:Nat,-((c+1).tmod m)=(a:Int):=⟨(-((c+1).tmod m)).toNat,by
   rw[<-Int.neg_tmod,Int.tmod_eq_emod_of_nonneg Z];have:=Int.emod_nonneg (-(c+1)) (show m≠0 by omega);omega⟩
  have g:(a:Int)<m:=by rw[<-d,<-Int.neg_tmod,Int.tmod_eq_emod_of_nonneg Z];exact Int.emod_lt_of_pos _ h
  have f:=V d;have j:m≠0:=Z;clear d;go_enter func36,ntmps36;go_wp2;go_ret;refine⟨a,g,?_,rfl⟩;rw[<-f.q];rfl
 obtain⟨a,d⟩:∃a:Nat,c % m=(a:Int):=⟨(c % m).toNat,by have:=Int.emod_nonneg c (show m≠0 by omega);omega⟩;have g:(a:Int)<m:=by rw[<-d];exact Int.emod_lt_of_pos _ h
 have f:=V d;have j:m≠0:=Z;clear d;go_enter func36,ntmps36;go_wp2;go_ret;refine⟨a,g,?_,rfl⟩;rw[<-f.q];rfl
def Jq (s a:Sb)(p r:Int):ByteArray×Int:=if p<0\/r<0\/(s.size:Int)<p+r then (s,2)else if 1500<s.size-r.toNat+a.size then (s,1)else (edited s a p.toNat r.toNat,0)
theorem zeu (s a:Sb)(p r:Int)(w:Sw)(G:s.size<=1500)(M:a.size<=2000000)(F : -9223372036854775808<=p)(E:p<=9223372036854775807):Calls prog 75 #[s,p,r,a] w λe u=>e=.returned (.tuple #[.string (Jq s a p r).1,.int .i64 (Jq s a p r).2])/\Below w w u:=by
 by_cases d:p<0\/r<0\/(s.size:Int)<p+r
 ·have f:Jq s a p r=(s,2):=if_pos d;rw[f];clear f;by_cases j:p<0
  ·clear d;go_enter func75,ntmps75;go_wp2;go_ret2;exact⟨rfl,Sr⟩
  by_cases k:r<0
  ·clear d;go_enter func75,ntmps75;go_wp2;go_ret2;exact⟨rfl,Sr⟩
  by_cases m:(s.size:Int)<p
  ·clear d;go_enter func75,ntmps75;go_wp2;go_ret2;exact⟨rfl,Sr⟩
  have t:IntKind.i64.wrap ((s.size:Int)-p)=(s.size:Int)-p:=by rw[Sqe];omega
  have l:(s.size:Int)-p<r:=Z;clear d;go_enter func75,ntmps75;go_wp2;go_ret2;exact⟨rfl,Sr⟩
 have j:¬p<0:=λg=>d (.inl g);have k:¬r<0:=λg=>d (.inr (.inl g));have v:¬(s.size:Int)<p+r:=λg=>d (.inr (.inr g));have m:¬(s.size:Int)<p:=Z;have l:¬(s.size:Int)-p<r:=Z;have t:IntKind.i64.wrap ((s.size:Int)-p)=(s.size:Int)-p:=by rw[Sqe];omega
 have H:IntKind.i64.wrap ((s.size:Int)-r)=(s.size:Int)-r:=by rw[Sqe];omega
 have K:IntKind.i64.wrap ((s.size:Int)-r+(a.size:Int))=(s.size:Int)-r+(a.size:Int):=by rw[Sqe];omega
 by_cases h:1500<s.size-r.toNat+a.size
 ·have f:Jq s a p r=(s,1):=(if_neg d).trans (if_pos h);rw[f];have o:1500<(s.size:Int)-r+(a.size:Int):=Z;clear d h f;go_enter func75,ntmps75;go_wp2;go_ret2;exact⟨rfl,Sr⟩
 have f:Jq s a p r=(edited s a p.toNat r.toNat,0):=(if_neg d).trans (if_neg h);rw[f];have o:¬1500<(s.size:Int)-r+(a.size:Int):=Z;have L:IntKind.i64.wrap (p+r)=p+r:=by rw[Sqe];omega
 have x:(0:Int)<=p:=Z;have y:p<=(s.size:Int):=Z;have z:(0:Int)<=p+r:=Z;have A:p+r<=(s.size:Int):=Z;have N:(s.extract 0 p.toNat).size=p.toNat:=by simp;omega
 have P:(s.extract (p+r).toNat s.size).size=s.size-(p+r).toNat:=Y;have C:=Yx (s.extract 0 p.toNat) a Z;have D:=Yx (s.extract 0 p.toNat++a) (s.extract (p+r).toNat s.size) (by rw[ByteArray.size_append];omega);have q:U (s.extract 0 p.toNat++a++s.extract (p+r).toNat s.size=edited s a p.toNat r.toNat):=V (by unfold edited;rw[show (p+r).toNat=p.toNat+r.toNat by omega]);clear d h f;go_enter func75,ntmps75;go_wp2;go_region
 go_wp2;go_ret2;exact⟨by rw[<-q.q];rfl,Sr.drew⟩
theorem zex {α:Type}(l:List α)(k:Nat)(v : α)(a:l[k]?=some v):l.set k v=l:=by
 obtain⟨d,rfl⟩:=Qb.1 a;exact List.set_getElem_self d
theorem Gr.refl (a:Nat)(w:Sw):Gr a w w:=⟨Sr,λ_ _ _=>rfl⟩
theorem zj6 (A:Nat->Prop)(f:Nat)(s a:Sb)(p r:Int)(w:Sw)(h:Gq A f w s)(x:p<=9223372036854775807)(v:Cv f w)(t:∀a,w.heap.size<=a->A a)(u:¬A f):Calls prog 43 #[.pointer (some f),p,r,.string a] w λe j=>e=.returned (.int .i64 (Jq s a p r).2)/\U (Gr f w j/\Gq A f j (Jq s a p r).1):=by
 by_cases k:p<0\/r<0\/(s.size:Int)<p+r
 ·rw[show Jq s a p r=(s,2) from if_pos k];refine(ze0 f s a p r w h x k).mono ?_;rintro e j⟨rfl,rfl⟩;exact⟨rfl,V ⟨Gr.refl _ _,h⟩⟩
 obtain⟨g,rfl⟩:∃g:Nat,p=g:=⟨p.toNat,Z⟩;obtain⟨d,rfl⟩:∃d:Nat,r=d:=⟨r.toNat,Z⟩;have m:g+d<=s.size:=Z;by_cases l:1500<s.size-(d:Int).toNat+a.size
 ·rw[show Jq s a g d=(s,1) from(if_neg k).trans (if_pos l)];refine(zh9 f s a g d w h m (by simpa using l)).mono ?_;rintro e j⟨rfl,rfl⟩;exact⟨rfl,V ⟨Gr.refl _ _,h⟩⟩
 rw[show Jq s a g d=(edited s a g d,0) from(if_neg k).trans (if_neg l)];refine(zmj A f s a g d w h m (by simpa using l) v t u).mono ?_;rintro e j⟨rfl,o,q⟩;exact⟨rfl,V ⟨o,q⟩⟩
theorem WS.at {u:Nat->Nat}{j h:Nat}{f:Nat->Value}{a:Nat->List Value}{y:List (Nat×ByteArray)}{w:Sw}(k:WS u j h f a y w)(r:Nat)(p:r<4)(i:Nat)(t:Value)(q:(a r)[i]?=some t):∃g c,f r=.slice (some ⟨g,0,none⟩) (a r).length c/\g<w.heap.size/\j<=g/\w.cell? ⟨g,i,none⟩=some t/\w.frozen? ⟨g,i,none⟩=false/\w.cell? (h r)=some (.slice (some ⟨g,0,none⟩) (a r).length c):=by
 have d:=k.ro r p;have C:=(Qb.1 q).1;have s:w.cell? (h r)=some (f r):=X k.hd r _ (by match r,p with|0,_=>rfl|1,_=>rfl|2,_=>rfl|3,_=>rfl)
 rcases d.2 with ⟨_,A⟩|⟨g,v,z,l,x,m,_⟩
 ·omega
 rw[l]at d s;have o:=World.ownsRow.cells d (g:=g) rfl i _ q;rw[show (⟨g,0,none⟩:Addr).add i=⟨g,i,none⟩ by simp[Addr.add];omega]at o;exact⟨g,v,l,(Qq.1 m).1,x,o,Av m i,s⟩
theorem WS.put {j:Nat->Nat}{u s:Nat}{q:Nat->Value}{p:Nat->List Value}{A:List (Nat×ByteArray)}{w:Sw}(a:WS j u s q p A w)(g i:Nat)(h:Value)(z:(q 1).ownBlock=some g):WS j u s q (λk=>if k=1 then (p 1).set i h else p k) A (w.setCell (g i) h):=by
 have D:=a.rk 1 Z g z;have K:(w.setCell (g i) h).heap.size=w.heap.size:=by simp[World.setCell]
 have d:Oj j j (λk=>k=3) w (w.setCell (g i) h):=⟨Z,λ_ _=>rfl,λt G=>a.fr t Z,λt G E=>Below.heap_setCell _ _ _ _ (λe:t=g=>E (by rw[e];exact D)),Z⟩;refine⟨(d.same s a.lt (by rw[a.kb];omega)).trans a.hd,a.kb,a.dw,λo l=>?_,a.rk,λf H F=>?_,λf r m=>(a.nm f r m).move d.moves,λf r m=>(a.tm f r m).move d.moves,d.new⟩
 ·by_cases y:o=1
  ·subst y;rw[if_pos rfl,List.length_set];exact Nn (a.ro 1 l) z i h
  rw[if_neg y];exact(d.row (a.ro o l) (a.rk o l) Z).1
 obtain⟨v,C,x⟩:=a.sh f H F;exact⟨v,C,x.move d.moves (d.same _ x.lt (by rw[v];omega))⟩
theorem Dl.at {h p n t:Nat}{g:List (Nat×ByteArray)}{w:Sw}(F:Dl h p g n t w)(k f:Nat)(s:Sb)(o:g[k]?=some (f,s)):∃d j a l,d<w.heap.size/\a<w.heap.size/\h<=a/\h<=f/\f<w.heap.size/\s.size<=1500/\w.cell? p=some (.slice (some ⟨d,0,none⟩) g.length j)/\w.cell? ⟨d,k,none⟩=some (.pointer (some f))/\w.cell? (p 1)=some (.slice (some ⟨a,0,none⟩) g.length l)/\w.cell? ⟨a,k,none⟩=some (.string s)/\w.frozen? ⟨a,k,none⟩=false:=by
 obtain⟨H,Q,P,m,u,v,M,N⟩:=F;obtain⟨d,j,K,y,_,z,_,q⟩:=m.at 0 Z k (.pointer (some f)) (by rw[u,SA,o];rfl);obtain⟨a,l,L,C,A,D,E,r⟩:=m.at 1 Z k (.string s) (by rw[v,SA,o];rfl);rw[u,List.length_map]at q;rw[v,List.length_map]at r;obtain⟨_,G,x⟩:=m.sh k _ o;exact⟨d,j,a,l,y,C,A,G,x.lt,x.1,q,z,r,D,E⟩
theorem Dl.edit {j C n t:Nat}{v:List (Nat×ByteArray)}{w:Sw}(R:Dl j C v n t w)(k h:Nat)(s d:Sb)(p r:Int)(m:v[k]?=some (h,s))(ae:p<=9223372036854775807)(ac:Cv j w):Calls prog 43 #[.pointer (some h),p,r,d] w λe g=>e=.returned (.int .i64 (Jq s d p r).2)/\U (Below j w g)/\∃a x,a<g.heap.size/\g.cell? (C 1)=some (.slice (some ⟨a,0,none⟩) v.length x)/\g.cell? ⟨a,k,none⟩=some (.string s)/\U (∀o,Below g g o->o.frozen? ⟨a,k,none⟩=false/\Below j w (o.setCell ⟨a,k,none⟩ (.string (Jq s d p r).1))/\Dl j C (v.set k (h,(Jq s d p r).1)) n t (o.setCell ⟨a,k,none⟩ (.string (Jq s d p r).1))):=by
 obtain⟨q,af,G,z,T,u,W,aa⟩:=R;obtain⟨H,K,ag⟩:=z.sh k _ m;refine(zj6 (λd=>q d=0) h s d p r w ag ae (ac.mono K) z.fr (λe=>by have e:q h=0:=e;have H:q h=6+k:=H;omega)).mono ?_;rintro e g⟨rfl,y⟩;have l:=z.edit k h s _ m y.q.1 y.q.2;obtain⟨a,x,D,M,L,N,ah,P⟩:=l.at 1 Z k (.string s) (by rw[u,SA,m];rfl);have E:=P;rw[u,List.length_map]at E;have F:Below j w g:=y.q.1.1.mono K;refine⟨rfl,V F,a,x,M,E,N,V (λo A=>?_)⟩;have ab:=(l.below A).put a k (.string (Jq s d p r).1) (by rw[D];rfl);obtain⟨an,am,f,aj,ai,ak,Q,al⟩:=(l.below A).at 1 Z k (.string s) (by rw[u,SA,m];rfl);rw[D]at f;injection f with f
 injection f with f
 injection f with f
 subst f;refine⟨Q,(F.trans (A.mono (by have:=l.lt;have:=l.dw;omega))).setCell (p:=⟨a,k,none⟩) L _,q,af,_,ab,?_,?_,W,aa⟩
 ·show G 0=_;rw[T,List.map_set];exact(zex _ _ _ (by rw[SA,m];rfl)).symm
 show (G 1).set k _=_;rw[u,List.map_set]
theorem zl1 {f o n t:Nat}{l:List (Nat×ByteArray)}(k j:Nat)(s a:Sb)(p r:Int)(w:Sw)(u:Dl f o l n t w)(h:l[k]?=some (j,s))(W:a.size<=2000000)(Q : -9223372036854775808<=p)(F:p<=9223372036854775807)(E:Cv f w):Calls prog 57 #[.pointer (some o),k,p,r,a] w λe m=>e=.returned true/\U (Dl f o (l.set k (j,(Jq s a p r).1)) n t m/\Below f w m):=by
 obtain⟨ak,af,al,ag,_,_,_,_,_,R,H,K,_⟩:=u.at k j s h;have v:=u.edit k j s a p r h F E;have y:∀d,_:=λd=>zeu s a p r d R W Q F;have ap:=(Qb.1 h).1;have am:(0:Int)<=(k:Int):=Z;have an:(k:Int)<(l.length:Int):=Z;obtain⟨⟨aq,c⟩,z⟩:∃G,Jq s a p r=G:=⟨_,rfl⟩;rw[z]at v ⊢;simp only[z]at y;have M:=V v;have N:=V y;clear u h E v y z;go_enter func57,ntmps57;go_wp2_with fail
 apply M.m;rintro e aa⟨rfl,ao,L,ae,P,q,A,C⟩;have T:=Sqf _ _ q;clear H K;go_wp2_with fail
 refine(N.q aa).mono ?_;rintro e ab⟨rfl,g⟩;have x:=V (C.q ab g);have aj:=x.q.1;have ah:=(g.cell (p:=⟨o,1,none⟩) T).trans q;have ai:=(g.cell (p:=⟨L,k,none⟩) P).trans A;have D:=V (Ov c);clear q A C g;go_wp2_with fail
 refine(D.q _).mono ?_;rintro e ac⟨rfl,rfl⟩;go_wp2_with fail
 refine(D.q _).mono ?_;rintro e ac⟨rfl,rfl⟩;go_wp2;go_ret;exact⟨Y,V ⟨x.q.2.2,x.q.2.1⟩⟩
theorem Tryz.zef:(prog.info? 62).map (λi=>(i.zero,i.size,i.bytes))=some (some (.pointer none),1,8):=Sk
theorem Tryz.ZF:(prog.info? 9).map (λi=>(i.zero,i.size,i.bytes))=some (some (.string ⟨#[]⟩),1,16):=Sk
theorem WS.app {C:Nat->Nat}{l f:Nat}{d:Nat->Value}{a:Nat->List Value}{A:List (Nat×ByteArray)}{w w2:Sw}(k:WS C l f d a A w)(r:Nat)(y:r<2)(z:Obj)(g j:Nat)(t:Value)
  (N:w2.ownsRow l (rt r) 1 (.slice (some g) ((a r).length+1) j) ((a r).length+1) (a r++[t])) (m:(w.alloc z).grownBy w2 (d r).ownBlock) (v:(d r).ownBlock=some g\/g=(w:Nat)+1) :
  U (w2.cell? (f r)=some (d r)/\w2.frozen? (f r)=false/\∃o,WS o l f (λh=>if h=r then .slice (some g) ((a r).length+1) j else d h) (λh=>if h=r then a r++[t]else a h) A (w2.setCell (f r) (.slice (some g) ((a r).length+1) j))/\Below l w (w2.setCell (f r) (.slice (some g) ((a r).length+1) j))):=by
 have K:=k.lt;have G:=k.dw;have Q:=m.size;simp at Q;have x:(d r).ownBlock≠some f:=λe=>by have:=k.rk r Z f e;have:=k.kb;omega
 have q:w2.heap[f]?=some (.cells #[d 0,d 1,d 2,d 3] 56 (0,0)):=by
  rw[m.block f (by simp;omega) (λe=>x e.symm),Sqj _ _ _ K];exact k.hd
 have F:=Sqi ((Below.refl l w).alloc Z z) m (by simp;omega) (λh P=>by have:=(k.ro r Z).lt h P;omega);have H:g≠f:=by
  rcases v with e|e
  ·exact λD=>x (by rw[e,D])
  omega
 have R:(w2.setCell (f r) (.slice (some g) ((a r).length+1) j)).heap.size=w2.heap.size:=by simp[World.setCell]
 obtain⟨o,E⟩:=k.row r Z (.slice (some g) ((a r).length+1) j) (a r++[t]) (λh=>if h=r then .slice (some g) ((a r).length+1) j else d h) (λ_=>rfl) (w':=w2.setCell (f r) (.slice (some g) ((a r).length+1) j)) Z
  (by
   have:=Aj (cs:=[d 0,d 1,d 2,d 3]) q r (.slice (some g) ((a r).length+1) j);rw[this];match r,y with
   |0,_=>rfl
   |1,_=>rfl)
  (λu s L M=>by rw[Below.heap_setCell _ _ _ _ L,m.block u (by simp;omega) (λe=>M e.symm),Sqj _ _ _ s])
  (by
   rw[Qa,List.length_singleton];exact World.ownsRow.kept N (Mh w2 f r _) (.inr (λe=>H (by simpa [Value.ownBlock]using e))))
  (λu s=>by
   obtain rfl:g=u:=by simpa [Value.ownBlock]using s
   rcases v with e|e
   ·exact .inl e
   exact .inr Z)
  (λe=>Z) (λe=>Z)
 exact V ⟨X q r _ (by match r,y with|0,_=>rfl|1,_=>rfl),Av q r,o,E,F.setCell (p:=⟨f,r,none⟩) G _⟩
theorem LU {d o n t:Nat}{a:List (Nat×ByteArray)}(s:Sb)(w:Sw)(L:Dl d o a n t w)(ca:a.length<=900000)(ag:Cv w w):Calls prog 34 #[.pointer (some o),s] w λe p=>e=.returned true/\U (∃b,Dl d o (if s.size<=1500 then a++[(b,s)]else a) n t p/\Below d w p):=by
 by_cases ah:s.size<=1500
 ·obtain⟨i0,bo,b0,b1,b2⟩:=info_parts Tryz.zef;obtain⟨b3,D,bp,bq,br⟩:=info_parts Tryz.ZF;have ab:=V (zcp s w ah ag);have bw:¬(1500:Int)<(s.size:Int):=Z;have aa:=V L;simp only[if_pos ah];have C:U (∀h,Calls prog 19 #[O] h λe p=>e=.returned O/\h=p):=V (Ov 0);clear L ag;go_enter func34,ntmps34;go_wp2_with fail
  apply ab.m;rintro e m⟨rfl,ae,a2⟩;obtain⟨b4,F,f,q,T,W,an,ao⟩:=aa.q;obtain⟨b5,r⟩:=q.begin s ae a2;have b9:=q.dw;have cb:=q.lt;have u:(f 0).length=a.length:=by rw[T,List.length_map]
  have az:(f 1).length=a.length:=by rw[W,List.length_map]
  obtain⟨G,H,y⟩:=ownsRow_form (r.ro 0 Z);obtain⟨N,P,a3⟩:=ownsRow_form (r.ro 1 Z);have cc:=r.lt;have a6:m.cell? o=some (.slice G a.length H):=by rw[X r.hd 0 (F 0) rfl,y,u]
  have bh:U (∀g,(m.alloc g).ownsRow d 62 1 (.slice G a.length H) a.length (f 0)):=V (λg=>by
   have:=r.ro 0 Z;rw[y,u]at this;exact World.ownsRow.alloc this g)
  have bg:U (∀g A Q z ai,z.ownsRow d 62 1 (.slice (some ⟨A,0,none⟩) (a.length+1) Q) (a.length+1) (f 0++[ai])->(m.alloc g).grownBy z (Value.slice G a.length H).ownBlock->((Value.slice G a.length H).ownBlock=some A\/A=(m:Nat)+1)->_):=V (λg A Q z ai bc bd bf=>r.app 0 Z g A Q ai (by rw[u];exact bc) (by rw[y,u];exact bd) (by rw[y,u];exact bf));have bz:=V (show d<=m.heap.size by omega);have bl:=V (ae.mono (show d<=w.heap.size by omega));have bx:=V y;have E:=V a3;have a8:=V T;have a9:=V W;have ba:=V an;have bb:=V ao;have ay:=V u;have v:=V az;clear ae a2 q r T W an ao y a3 u az;go_wp2_with fail
  refine(C.q _).mono ?_;rintro e p⟨rfl,rfl⟩;go_wp2_with fail
  refine(C.q _).mono ?_;rintro e p⟨rfl,rfl⟩;have bu:U (∀(h:Sw) k l,([.pointer (some w)]:List Value)[k]?=some l->(h.alloc (.cells #[.pointer (some w)] 62)).cell? ((⟨h.heap.size,0,none⟩:Addr).add k)=some l):=V (λh k l D=>World.news_of_block (Ak _ _) k l (by exact D));have bv:U (∀(h:Sw) k l,([s]:List Value)[k]?=some l->(h.alloc (.cells #[s] 9)).cell? ((⟨h.heap.size,0,none⟩:Addr).add k)=some l):=V (λh k l D=>World.news_of_block (Ak _ _) k l (by exact D));go_wp2_with (at_builtin;refine wpList_append_lies _ I _ _ 54 I d 62 i0 (.pointer none) 1 8 underlying54 bo b0 b1 b2 I Z (.slice G a.length H) a.length (f 0) I (bh.q _) m 1 1 [.pointer (some w)] I I (bu.q m) (by simp[Value.oneCell']) Z (by unfold maxLen;omega) Z (by have:=bz.q;simp;omega) ((m:Nat)+1) Y ?_)
  intro am ak z a0 aw ar bs;obtain⟨a5,b7,b6,x,af⟩:=(bg.q _ am ak z _ a0 aw ar).q;rw[bx.q,ay.q]at a5;obtain⟨j,ac⟩:=Qzz (z.setCell o (.slice (some am) (a.length+1) ak));rw[ay.q,<-ac]at x af;have bj:=V x;have bm:=V (bl.q.trans af);have cd:d<=j:=by have:=x.lt;omega
  have a7:j.cell? (o 1)=some (.slice N a.length P):=by rw[X x.hd 1 (F 1) rfl,E.q,v.q]
  have bi:U (∀g,(j.alloc g).ownsRow d 9 1 (.slice N a.length P) a.length (f 1)):=V (λg=>by
   have:j.ownsRow d 9 1 (F 1) (f 1).length (f 1):=x.ro 1 Z;rw[E.q,v.q]at this;exact World.ownsRow.alloc this g)
  have bk:=V ac;clear a0 aw ar bs x af ac a6;go_upto_region 9 with fail
  rw[<-bk.q];go_wp2_with (at_builtin;refine wpList_append_lies _ I _ _ 32 I d 9 b3 (.string ⟨#[]⟩) 1 16 underlying32 D bp bq br I Z (.slice N a.length P) a.length (f 1) I (bi.q _) j 1 1 [.string s] I I (bv.q j) (by simp[Value.oneCell']) Z (by unfold maxLen;omega) Z (by simp;omega) ((j:Nat)+1) Y ?_)
  intro R al M a1 ax au bt;have ap:=bj.q.app 1 Z _ R al (.string s) (by show M.ownsRow d 9 1 (.slice _ ((f 1).length+1) _) ((f 1).length+1) (f 1++[.string s]);rw[v.q];exact a1) (by show World.grownBy _ M (F 1).ownBlock;rw[E.q,v.q];exact ax) (by show (F 1).ownBlock=some R\/_;rw[E.q,v.q];exact au);obtain⟨aj,b8,a4,aq,av⟩:=ap.q;have aj:M.cell? (o 1)=some (.slice N a.length P):=by rw[<-v.q,<-E.q];exact aj
  have bn:U (∀K,K=M.setCell (o 1) (.slice (some R) (a.length+1) al)->Dl d o (a++[(w.heap.size,s)]) n t K/\Below d w K):=V (λK q=>by
   rw[<-v.q]at q;subst q;refine⟨⟨a4,_,_,aq,?_,?_,ba.q,bb.q⟩,bm.q.trans av⟩
   ·show f 0++[_]=_;rw[a8.q,Qv];rfl
   show f 1++[_]=_;rw[a9.q,Qv];rfl)
  clear a1 ax au bt aq av ap a7;go_wp2;go_ret;exact⟨rfl,V ⟨w,bn.q _ rfl⟩⟩
 have ab:=V (zew s w Z);have C:=V (Ov 1 w);have bw:(1500:Int)<(s.size:Int):=Z;simp only[if_neg ah];have aa:=V L;clear L ag;go_enter func34,ntmps34;go_wp2_with fail
 apply ab.m;rintro e m⟨rfl,rfl⟩;go_wp2_with fail
 apply C.m;rintro e p⟨rfl,rfl⟩;go_wp2_with fail
 apply C.m;rintro e p⟨rfl,rfl⟩;go_wp2;go_ret;exact⟨rfl,V ⟨0,aa.q,Sr⟩⟩
