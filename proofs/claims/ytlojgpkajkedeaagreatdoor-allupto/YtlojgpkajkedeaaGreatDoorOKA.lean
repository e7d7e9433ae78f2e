import Derived.Test.YtlojgpkajkedeaaGreatDoorOJF
import Derived.Test.YtlojgpkajkedeaaGreatDoorOVD
set_option maxHeartbeats 0
set_option maxRecDepth 100000
namespace Go.Proofs.YtlojgpkajkedeaaGreatDoor
open Go.RowKit Go.Proofs.Tryz
theorem Uv {P:Program}(w:Sw){an:Array Oper}{rest:List Oper}{q:Oper}{a:Act}{M:Exit->Act->World->Prop}(aw:q.guard=none)(s ao:Operand)(t:TypeId)
  (az:q.op=.call { callee:=.builtin .append,args:=#[s,ao],argTypes:=#[t,t] })
  (r:Nat) (e:TypeId) (i:TypeInfo) (z:Value) (size bytes:Nat) (L:P.underlying t=some (.slice e)) (G:P.info? e=some i) (am:i.zero=some z)
  (ak:i.size=size) (ab:i.bytes=bytes) (a6:z.cells.size=size) (a3:0<size)
  (v:Value) (n:Nat) (o:List Value) (a1:a.eval s=v) (p:w.ownsRow r e size v n o)
  (ad:Addr) (m c:Nat) (news:List Value) (a5:a.eval ao=.slice (some ad) m c) (C:news.length=m*size) (H:∀d f,news[d]?=some f->w.cell? (ad.add d)=some f) (N:∀f∈news,f.oneCell'=true)
  (bc:0<m) (T:n+m<=maxLen) (ac:(n+m)*bytes<=140737488355328) (au:r<=w)
  (ap:∀g h j,j.ownsRow r e size (.slice (some ⟨g,0,none⟩) (n+m) h) (n+m) (o++news)->j.ownsRow r e size v n o->w.grownBy j v.ownBlock->(v.ownBlock=some g\/g=w.heap.size)->g<j.heap.size->(∀(b d:Nat) (f:Value),w.cell? (b d)=some f->(∀i,n*size+i=d->i<news.length->news[i]?=some f)->j.cell? (b d)=some f)->wpList P an M rest (a.put q.dst (.slice (some ⟨g,0,none⟩) (n+m) h)) j):wpList P an M (q::rest) a w:=by
 obtain⟨a7,j,K,Q,D,a9,u⟩:=run_append_own_at (P:=P) w r t q.type e i z size bytes L G am ak ab a6 a3 v n o p ad m c news C H N T ac au;have ag:j.ownsRow r e size v n o/\∀(b d:Nat) (f:Value),w.cell? (b d)=some f->(∀i,n*size+i=d->i<news.length->news[i]?=some f)->j.cell? (b d)=some f:=by
  subst ak;rcases p.2 with ⟨rfl,rfl⟩|⟨g,h,k,rfl,aa,x,ah,ae,af,al⟩
  ·have:o=[]:=List.eq_nil_of_length_eq_zero (by simpa using p.1);subst this;refine⟨Sqg _ _ _ _,λb d f l _=>?_⟩;exact(World.cell?_of_block (a:=⟨b,d,none⟩) (D.block b (Sqf _ _ l) (by simp[Value.ownBlock]))).trans l
  by_cases ai:n+m<=h
  ·have av:n*i.size+news.length<=k.size:=by rw[C,af,<-Nat.add_mul];exact Nat.mul_le_mul_right _ ai
   have y:=run_append_room (P:=P) w t q.type e i L G g n h k x ad m c news C H N ai av;rw[K]at y;injection y with e1 e2
   subst e2;have aj:=setRow_heap w g k (k.toList.take (n*i.size)++news++k.toList.drop (n*i.size+news.length)).toArray e (0,0) x;refine⟨⟨p.1,.inr ⟨g,h,_,rfl,aa,aj,ah,ae,?_,?_⟩⟩,λb d f l a4=>?_⟩
   ·simp only[Qba,Qa,Ql,Qf,Array.length_toList];omega
   ·rw[<-al];simp only[Qp];rw[Qbc (by rw[Ql,Array.length_toList];omega),List.take_take,Nat.min_self]
   by_cases W:b=g
   ·subst W;have F:k.toList[d]?=some f:=by
     simpa [World.cell?,x]using l
    refine X aj d f ?_;rw[List.getElem?_toArray];have ay:=(Qb.1 F).1;have A:k.toList.length=k.size:=Array.length_toList;rw[A]at ay;by_cases E:d<n*i.size
    ·rw[Qp,Qbd (by rw[Ql,A];omega),Qbe E];exact F
    by_cases bb:d<n*i.size+news.length
    ·rw[Qp,Qu (by rw[Ql];omega),Ql,A,SI Z,Qbd Z];exact a4 (d-n*i.size) Z Z
    rw[Qu (by rw[Qa,Ql];omega),Qa,Ql,A,SI Z,Qn,<-F];congr 1;omega
   exact(World.cell?_of_block (a:=⟨b,d,none⟩) (D.block b (Sqf _ _ l) (by simpa [Value.ownBlock]using W))).trans l
  have a0:∀d f,o[d]?=some f->w.cell? ((⟨g,0,none⟩:Addr).add d)=some f:=p.cells (g:=g) rfl;have y:=run_append_grow (P:=P) w t q.type e i z L G am ⟨g,0,none⟩ n h o p.1 a0 ad m c news C H Z (by simp only[maxLen]at T;omega) (growslice_fits Z (by rw[ab];exact ac));rw[K]at y;injection y with e1 e2
  subst e2;refine⟨⟨p.1,.inr ⟨g,h,k,rfl,aa,?_,ah,ae,af,al⟩⟩,λb d f l _=>?_⟩
  ·rw[<-x];exact Sqj w.drew _ g (Qq.1 x).1
  exact(World.cell?_of_block (a:=⟨b,d,none⟩) (Sqj w.drew _ b (Sqf _ _ l))).trans l
 have a2:∃g h,a7=.slice (some ⟨g,0,none⟩) (n+m) h/\g<j.heap.size:=by
  rcases Q.2 with ⟨R,ba⟩|⟨g,h,k,R,_,E,_⟩
  ·omega
  exact⟨g,h,R,(Qq.1 E).1⟩
 obtain⟨g,h,rfl,ax⟩:=a2;have ar:v.ownBlock=some g\/g=w.heap.size:=by
  rcases u with u|u
  ·exact .inl (by rw[<-u];rfl)
  exact .inr (by simpa [Value.ownBlock]using u)
 refine wpList_plain aw λa8 aq=>?_;unfold Oper.wp execOp;simp only[az,resolve,invoke,builtin,Sem.run_bind,Sem.run_pure,Result.andThen_ok,List.map_toArray,Qs,List.map_nil,a1,a5,K];exact aq _ _ (ap g h j Q ag.1 D ar ax ag.2)
def Gd (c:Nat)(A:Nat->Prop)(z:Int)(v:Value)(w:Sw):Prop:=∃(d:So) (n g:Nat),v=.slice d n g/\n<=1000000/\∀f,f<n->∃a,d=some ⟨a,0,none⟩/\A a/\a<w.heap.size/\w.cell? ⟨a,f*c+2,none⟩=some (.int .i64 z)
theorem Gd.move {c:Nat}{A A':Nat->Prop}{z:Int}{v:Value}{w w':Sw}(f:Gd c A z v w)(h:Moves A A' w w'):Gd c A' z v w':=by
 obtain⟨a,n,l,rfl,q,f⟩:=f;refine⟨a,n,l,rfl,q,λk p=>?_⟩;obtain⟨d,m,j,g,o⟩:=f k p;exact⟨d,m,(h.2 d j g).1,Qh g h.1,(World.cell?_of_block (a:=⟨d,k*c+2,none⟩) (h.2 d j g).2).trans o⟩
theorem Gd.over {c:Nat}{A:Nat->Prop}{z:Int}{v:Value}{w w':Sw}(d:Gd c A z v w)(r:w<=w'.heap.size)(p:∀(b a:Nat),w.cell? (b (a*c+2))=some (.int .i64 z)->w'.cell? (b (a*c+2))=some (.int .i64 z)):Gd c A z v w':=by
 obtain⟨g,n,h,rfl,o,d⟩:=d;refine⟨g,n,h,rfl,o,λa m=>?_⟩;obtain⟨f,j,k,q,l⟩:=d a m;exact⟨f,j,k,Z,p f a l⟩
theorem ownsRow_form {w:Sw}{a e s n:Nat}{v:Value}{h:List Value}(g:w.ownsRow a e s v n h):∃d f,v=.slice d n f:=by
 rcases g.2 with ⟨rfl,rfl⟩|⟨l,j,k,rfl,_⟩
 ·exact⟨_,_,rfl⟩
 exact⟨_,_,rfl⟩
theorem zhq {w:Sw}{B e c n:Nat}{v:Value}{j:List Value}{z:Int}(h:n<=1000000)(d:w.ownsRow B e c v n j)(o:∀a,a<n->j[a*c+2]?=some (.int .i64 z)):Gd c (λp=>B<=p) z v w:=by
 rcases d.2 with ⟨rfl,rfl⟩|⟨g,q,r,rfl,k,m,_⟩
 ·exact⟨_,_,_,rfl,h,λa f=>Z⟩
 refine⟨_,_,_,rfl,h,λa f=>⟨g,rfl,k,(Qq.1 m).1,?_⟩⟩;have:=World.ownsRow.cells d (g:=g) rfl (a*c+2) _ (o a f);have l:(g:Addr).add (a*c+2)=⟨g,a*c+2,none⟩:=by simp[Addr.add]
 rwa [l]at this
structure Oj (K K':Nat->Nat)(C:Nat->Prop)(w w':Sw):Prop where
 sz:w<=w'.heap.size
 old:∀x,x<w.heap.size->K' x=K x
 new:∀x,w'.heap.size<=x->K' x=0
 same:∀x,x<w.heap.size->¬C (K x)->w'.heap[x]?=w.heap[x]?
 c0:¬C 0
theorem Oj.moves {f g:Nat->Nat}{C:Nat->Prop}{w w':Sw}(d:Oj f g C w w'):Moves (λa=>f a=0) (λa=>g a=0) w w':=
 ⟨d.sz,λa j h=>⟨(d.old a h).trans j,d.same a h (by rw[j];exact d.c0)⟩⟩
theorem Oj.row {h j:Nat->Nat}{C:Nat->Prop}{w w':Sw}(k:Oj h j C w w'){g e s n r:Nat}{v:Value}{p:List Value}(f:w.ownsRow g e s v n p)(m:∀a,v.ownBlock=some a->h a=r)(z:¬C r):w'.ownsRow g e s v n p/\∀a,v.ownBlock=some a->j a=r:=by
 rcases f.2 with ⟨rfl,rfl⟩|⟨a,q,t,rfl,x,l,y⟩
 ·exact⟨⟨f.1,.inl ⟨rfl,rfl⟩⟩,λa d=>by simp[Value.ownBlock]at d⟩
 have o:=(Qq.1 l).1;refine⟨⟨f.1,.inr ⟨a,q,t,rfl,x,(k.same a o (by rw[m a rfl];exact z)).trans l,y⟩⟩,λu d=>?_⟩;obtain rfl:a=u:=by simpa [Value.ownBlock]using d
 rw[k.old a o];exact m a rfl
def rt:Nat->TypeId
 |0=>62
 |1=>9
 |2=>22
 |_=>65
structure WS (K:Nat->Nat)(D wb:Nat)(rv:Nat->Value)(rl:Nat->List Value)(ss:List (Nat×ByteArray))(w:Sw):Prop where
 hd:w.heap[wb]?=some (.cells #[rv 0,rv 1,rv 2,rv 3] 56 (0,0))
 kb:K wb=1
 dw:D<=wb
 ro:∀r,r<4->w.ownsRow D (rt r) 1 (rv r) (rl r).length (rl r)
 rk:∀r,r<4->∀g,(rv r).ownBlock=some g->K g=2+r
 sh:∀i p,ss[i]?=some p->K p.1=6+i/\D<=p.1/\Gq (λx=>K x=0) p.1 w p.2
 nm:∀i v,(rl 2)[i]?=some v->Gd 5 (λx=>K x=0) (1000000+((i / 4:Nat):Int)) v w
 tm:∀i v,(rl 3)[i]?=some v->Gd 3 (λx=>K x=0) (1000000+((i / 4:Nat):Int)) v w
 fr:∀x,w.heap.size<=x->K x=0
theorem WS.lt {f:Nat->Nat}{d a:Nat}{j:Nat->Value}{h:Nat->List Value}{k:List (Nat×ByteArray)}{w:Sw}(g:WS f d a j h k w):a<w:=(Qq.1 g.hd).1
theorem WS.below {h:Nat->Nat}{q p:Nat}{u:Nat->Value}{t:Nat->List Value}{v:List (Nat×ByteArray)}{w w':Sw}(a:WS h q p u t v w)(d:Below w w w'):WS h q p u t v w':=by
 have j:Oj h h (λ_=>False) w w':=⟨d.size,λ_ _=>rfl,λg f=>a.fr g (Qj d.size f),λg f _=>d.block g f,λa=>a⟩;exact⟨(d.block p a.lt).trans a.hd,a.kb,a.dw,λs r=>(j.row (a.ro s r) (a.rk s r) (λa=>a)).1,a.rk,λi l k=>⟨(a.sh i l k).1,(a.sh i l k).2.1,(a.sh i l k).2.2.move j.moves (d.block _ (a.sh i l k).2.2.lt)⟩,λi o m=>(a.nm i o m).move j.moves,λi o m=>(a.tm i o m).move j.moves,λg f=>a.fr g (Qj d.size f)⟩
theorem WS.row {p:Nat->Nat}{A u:Nat}{z:Nat->Value}{L:Nat->List Value}{M:List (Nat×ByteArray)}{w w':Sw}(h:WS p A u z L M w)(r:Nat)(G:r<4)(v:Value)(l:List Value)(q:Nat->Value)
  (H:∀g,q g=if g=r then v else z g) (K:w<=w'.heap.size) (hd:w'.heap[u]?=some (.cells #[q 0,q 1,q 2,q 3] 56 (0,0)))
  (T:∀a,a<w.heap.size->a≠u->(z r).ownBlock≠some a->w'.heap[a]?=w.heap[a]?) (F:w'.ownsRow A (rt r) 1 v l.length l) (P:∀j,v.ownBlock=some j->(z r).ownBlock=some j\/w.heap.size<=j)
  (y:r=2->∀i a,l[i]?=some a->Gd 5 (λo=>(p o=0/\v.ownBlock≠some o)) (1000000+((i / 4:Nat):Int)) a w') (W:r=3->∀i a,l[i]?=some a->Gd 3 (λo=>(p o=0/\v.ownBlock≠some o)) (1000000+((i / 4:Nat):Int)) a w') :
  ∃m,WS m A u q (λg=>if g=r then l else L g) M w':=by
 obtain⟨m,x⟩:∃m:Nat->Nat,∀a,m a=if v.ownBlock=some a then 2+r else p a:=⟨_,λ_=>rfl⟩
 have Q:∀j,v.ownBlock=some j->j<w':=λj D=>(F.lt j D).2;have k:Oj p m (λg=>g=1\/g=2+r) w w':=by
  refine⟨K,λa f=>?_,λa f=>?_,λa f y=>?_,Z⟩
  ·rw[x];split
   ·rename_i d;rcases P a d with s|s
    ·exact(h.rk r G a s).symm
    omega
   rfl
  ·rw[x,if_neg (λe=>by have:=Q a e;omega)];exact h.fr a (Qj K f)
  refine T a f (λe=>y (.inl (by rw[e];exact h.kb))) (λe=>y (.inr (h.rk r G a e)))
 have E:Moves (λo=>(p o=0/\v.ownBlock≠some o)) (λa=>m a=0) w' w':=⟨Qc _,λa f _=>⟨by show m a=0;rw[x,if_neg f.2];exact f.1,rfl⟩⟩;refine⟨m,hd,?_,h.dw,λg t=>?_,λg t=>?_,λi aa R=>?_,λi a f=>?_,λi a f=>?_,k.new⟩;·rw[k.old u h.lt];exact h.kb
 ·rw[H];by_cases d:g=r
  ·rw[if_pos d,if_pos d,d];exact F
  rw[if_neg d,if_neg d];exact(k.row (h.ro g t) (h.rk g t) Z).1
 ·rw[H];by_cases d:g=r
  ·rw[if_pos d];intro j D;rw[x,if_pos D,d]
  rw[if_neg d];exact(k.row (h.ro g t) (h.rk g t) Z).2
 ·obtain⟨s,N,C⟩:=h.sh i aa R;exact⟨(k.old _ C.lt).trans s,N,C.move k.moves (k.same _ C.lt (by rw[s];omega))⟩
 ·by_cases d:2=r
  ·rw[if_pos d]at f;exact(y d.symm i a f).move E
  rw[if_neg d]at f;exact(h.nm i a f).move k.moves
 by_cases d:3=r
 ·rw[if_pos d]at f;exact(W d.symm i a f).move E
 rw[if_neg d]at f;exact(h.tm i a f).move k.moves
theorem WS.edit {f:Nat->Nat}{u t:Nat}{E:Nat->Value}{D:Nat->List Value}{q:List (Nat×ByteArray)}{w w':Sw}(a:WS f u t E D q w)(k j:Nat)(s F:Sb)(m:q[k]?=some (j,s))(l:Gr j w w')(K:Gq (λg=>f g=0) j w' F):WS f u t E D (q.set k (j,F)) w':=by
 have z:=(a.sh k _ m).1;have d:Oj f f (λM=>M=6+k) w w':=⟨l.1.size,λ_ _=>rfl,λg p=>a.fr g (Qj l.1.size p),λg p H=>l.2 g p (λe=>H (by rw[e];exact z)),Z⟩;refine⟨(d.same t a.lt (by rw[a.kb];omega)).trans a.hd,a.kb,a.dw,λC A=>(d.row (a.ro C A) (a.rk C A) Z).1,a.rk,λi L h=>?_,λi r o=>(a.nm i r o).move d.moves,λi r o=>(a.tm i r o).move d.moves,d.new⟩;by_cases y:i=k
 ·subst y;rw[List.getElem?_set_self ((Qb.1 m).1)]at h;obtain rfl:=Qy h;exact⟨z,(a.sh i _ m).2.1,K⟩
 rw[List.getElem?_set_ne (λe=>y e.symm)]at h;obtain⟨v,G,x⟩:=a.sh i L h;exact⟨v,G,x.move d.moves (d.same _ x.lt (by rw[v];omega))⟩
theorem WS.begin {t:Nat->Nat}{r q:Nat}{C:Nat->Value}{A:Nat->List Value}{m:List (Nat×ByteArray)}{w w':Sw}(a:WS t r q C A m w)(s:Sb)(p:Below w w w')(y:Gq (λd=>w<d) w w' s):∃g,WS g r q C A (m++[(w.heap.size,s)]) w':=by
 obtain⟨g,o⟩:∃g:Nat->Nat,∀d,g d=if d=w.heap.size then 6+m.length else t d:=⟨_,λ_=>rfl⟩
 have H:=y.lt;have f:Oj t g (λ_=>False) w w':=⟨p.size,λd j=>by rw[o,if_neg Z],λd j=>by rw[o,if_neg Z];exact a.fr d Z,λd j _=>p.block d j,λa=>a⟩;refine⟨g,(p.block q a.lt).trans a.hd,by rw[f.old q a.lt];exact a.kb,a.dw,λl k=>(f.row (a.ro l k) (a.rk l k) (λa=>a)).1,λl k=>(f.row (a.ro l k) (a.rk l k) (λa=>a)).2,λi z h=>?_,λi x v=>(a.nm i x v).move f.moves,λi x v=>(a.tm i x v).move f.moves,f.new⟩;by_cases F:i<m.length
 ·rw[Qbd F]at h;obtain⟨D,E,u⟩:=a.sh i z h;exact⟨(f.old _ u.lt).trans D,E,u.move f.moves (p.block _ u.lt)⟩
 rw[Qu Z]at h;have G:i-m.length=0:=by have:=(Qb.1 h).1;simp at this;omega
 rw[G]at h;obtain rfl:(w.heap.size,s)=z:=by simpa using h
 refine⟨by rw[o,if_pos rfl];omega,by have:=a.lt;have:=a.dw;show r<=w.heap.size;omega,y.move ⟨Qc _,λd j K=>⟨?_,rfl⟩⟩ rfl⟩;have j:w<d:=j;show g d=0;rw[o,if_neg Z];exact a.fr d Z
theorem KO (c:List Value)(n k a:Nat)(g:k<n)(d:a<c.length):(List.replicate n c).flatten[k*c.length+a]?=c[a]?:=by
 induction n generalizing k with
 |zero=>omega
 |succ n f=>
  rw[List.replicate_succ,List.flatten_cons];cases k with
  |zero=>rw[Nat.zero_mul,Nat.zero_add,Qbd d]
  |succ k=>
   rw[Qu (by rw[Nat.add_mul];omega),show (k+1)*c.length+a-c.length=k*c.length+a by rw[Nat.add_mul];omega];exact f k Z
theorem zi4 (c:List Value)(n m:Nat):(List.replicate n c).flatten++(List.replicate m c).flatten=(List.replicate (n+m) c).flatten:=by
 rw[<-List.flatten_append,List.replicate_append_replicate]
theorem zbk (c:List Value)(n:Nat):(List.replicate n c).flatten.length=n*c.length:=by
 induction n with
 |zero=>simp
 |succ n a=>rw[List.replicate_succ,List.flatten_cons,Qa,a,Nat.add_mul];omega
theorem VL {w:Sw}{B e n m:Nat}{v:Value}{z:Int}(cs:List Value)(d:cs[2]?=some (.int .i64 z))(g:n+m<=1000000)(a:w.ownsRow B e cs.length v (n+m) ((List.replicate n cs).flatten++(List.replicate m cs).flatten)):Gd cs.length (λj=>B<=j) z v w:=by
 rw[zi4]at a;exact zhq g a (λh f=>by rw[KO cs _ h 2 f (Qb.1 d).1];exact d)
theorem UF {w w':Sw}{n m:Nat}{z:Int}(cs:List Value)(j:cs[2]?=some (.int .i64 z))(k:∀(b g:Nat) (h:Value),w.cell? (b g)=some h->(∀i,n*cs.length+i=g->i<(List.replicate m cs).flatten.length->(List.replicate m cs).flatten[i]?=some h)->w'.cell? (b g)=some h):∀(b d:Nat),w.cell? (b (d*cs.length+2))=some (.int .i64 z)->w'.cell? (b (d*cs.length+2))=some (.int .i64 z):=by
 intro b d r;have o:=(Qb.1 j).1;refine k b _ _ r (λi l p=>?_);rw[zbk]at p;have s:n<=d:=by
  rcases Nat.lt_or_ge d n with a|a
  ·have:=Nat.mul_le_mul_right cs.length a;rw[Nat.succ_mul]at this;omega
  exact a
 obtain⟨f,rfl⟩:∃f,d=n+f:=⟨d-n,Z⟩;rw[Nat.add_mul]at l;obtain rfl:i=f*cs.length+2:=Z;have q:f<m:=by
  rcases Nat.lt_or_ge f m with a|a
  ·exact a
  have:=Nat.mul_le_mul_right cs.length a;omega
 rw[KO cs m f 2 q o];exact j
theorem zli (C r B m:Nat)(a:So)(t:Nat)(l:List Nd)(x:So)(k y:Nat)(ah:List Value)(u0 u1 u2:Value)(w:Sw)(cu:C<=r)(eh:C<=B)(eg:B<=w)(bc:w.heap[r]?=some (.cells #[u0,u1,.slice x k y,u2] 56 (0,0)))(bz:w.ownsRow C 22 1 (.slice x k y) k ah)(en:k<=1000000)(cb:k=4*m)(aa:Bl B a t l w)(b9:l.length<=900000)
  (dl:r<B) (bw:∀v,(Value.slice x k y).ownBlock=some v->v<B) (ck:(Value.slice x k y).ownBlock≠some r) :
  Calls prog 50 #[.pointer (some (r 2)),.slice a l.length t] w λe av=>e=.returned (.tuple #[])/\U (∃(E:Value) (br:List Value),av.heap[r]?=some (.cells #[u0,u1,E,u2] 56 (0,0))/\av.ownsRow C 22 1 E (k+4) (ah++br)/\br.length=4/\(∀g∈br,Gd 5 (λz=>B<=z/\E.ownBlock≠some z) (1000000+(m:Int)) g av)/\(∀g,g<B->g≠r->(Value.slice x k y).ownBlock≠some g->av.heap[g]?=w.heap[g]?)/\(∀v,E.ownBlock=some v->(Value.slice x k y).ownBlock=some v\/w.heap.size<=v)/\Below C w av):=by
 obtain⟨i0,ba,bm,bn,bo⟩:=info_parts Tryz.Yf;obtain⟨dy,L,da,db,dc⟩:=info_parts Tryz.zi2;have dn:r<w:=Z;have a3:=X bc 2 _ rfl;have bb:=V (aa.lt);have dm:=V bc;have c3:=V bz;have du:=V aa;have a7:=V bw;have cl:=V ck;have dp:=V cb;clear bc bz aa bw ck cb;go_enter func50,ntmps50;go_upto_region 1 with fail
 obtain⟨f,cp⟩:∃f:Int,f=1000000+(k:Int) / 4:=⟨_,rfl⟩;rw[<-cp];have dx:U (f=1000000+(m:Int)):=V (by have:=dp.q;omega);obtain⟨D,ac⟩:=Qzz (w.alloc (.cells #[O,O,f,(),()] 36));rw[<-ac];have cm:D.heap.size=(w:Nat)+1:=by rw[ac];simp
 have cn:D.heap[w.heap.size]?=some (.cells #[O,O,f,(),()] 36 (0,0)):=by rw[ac];exact Ak _ _
 have b1:w.grownBy D none:=by rw[ac];exact World.grownBy_alloc _ _ _
 have ce:Bl B a t l D:=by rw[ac];exact du.q.alloc _
 have a0:=V cm;have c7:=V b1;have dt:=V ce;obtain⟨own,aa⟩:=Qyy ((Value.slice a l.length t).ownBlock);have af:U ((Value.slice a l.length t).ownBlock=own):=V aa;have co:own≠some w.heap.size:=λe=>by have:=bb.q w (aa.trans e);omega
 have H:U (∀wr,D.grownBy wr own->wr.heap[w.heap.size]?=some (.cells #[O,O,f,(),()] 36 (0,0))):=V (λwr K=>(K.block w Z (λe=>co e.symm)).trans cn);clear cp ac cm cn b1 ce aa a3 co;go_wp2;go_loopw [5] (λi wr=>∃o:Nat,o<=l.length/\i=.int .i64 o/\U (Bl B a t (List.replicate o (Fg f)++l.drop o) wr/\D.grownBy wr own)) (λi _=>l.length-(intOf i).toNat)
 case atStart=>exact⟨0,Qt _,rfl,V ⟨by simpa using dt.q,World.grownBy.refl _ _⟩⟩
 case round=>
  obtain⟨o,em,rfl,P⟩:=hrel;have ag:=H.q wr P.q.2;have ao:=X ag 0 _ rfl;have ap:=X ag 1 _ rfl;have aq:=X ag 2 _ rfl;have ar:=X ag 3 _ rfl;have au:=X ag 4 _ rfl;clear ag;by_cases ca:o<l.length
  ·obtain⟨z,a1⟩:∃z,l[o]?=some z:=⟨l[o],Qg ca⟩;have bl:=zft l o (Fg f) z a1;obtain⟨v,c8,ei,ej,d5,d6,d7,d8,d9⟩:=Z7 P.q.1 o z bl;subst c8;have ae:=YR P.q.1;have bj:=zbo P.q.1 o (Fg f) z bl;rw[zhc l o (Fg f) ca]at bj;have cc:own=some v:=af.q.symm;have cj:=V bj;have el:(o:Int)<(l.length:Int):=Z;have ek:(0:Int)<=(o:Int):=Z;have ea:=ae (o*5);have eb:=ae (o*5+1);have ec:=ae (o*5+2);have ed:=ae (o*5+3);have ee:=ae (o*5+4);have dq:=V cc;clear bj ae cc bl a1;go_wp2;go_roundw
   case rel=>exact⟨o+1,Z,by go_num,V ⟨cj.q.1,P.q.2.trans (by rw[dq.q];exact cj.q.2)⟩⟩
   case measure=>exact Sj
  have df:o=l.length:=Z;subst df;obtain⟨N,a4⟩:=Qyy ((List.replicate l.length (Cg (Fg f))).flatten);have er:(w:Nat)+1<=wr.heap.size:=by have:=P.q.2.size;have:=a0.q;omega
  have dv:U (wr.ownsRow B 36 5 (.slice a l.length t) l.length N):=V (by
   have:=P.q.1;rw[List.drop_length,Qbk]at this;unfold Bl at this;rw[List.length_replicate]at this;rw[<-a4];simpa [Ck]using this)
  have c9:U (D.grownBy wr own):=V P.q.2;have az:U (∀d∈Cg (Fg f),d.oneCell'=true):=V (by
   intro d G;simp[Cg,Fg]at G;rcases G with rfl|rfl|rfl|rfl|rfl<;>rfl)
  have a5:U (∀(j:Sw) u,j.ownsRow B 36 5 (.slice a l.length t) l.length N->(j.alloc u).ownsRow B 36 5 (.slice a l.length t) l.length N):=V (λj u s=>World.ownsRow.alloc s u);have ay:U (∀(j:Sw) (h:Nat) (E:Value),h<=3->j.ownsRow B 36 5 E (l.length+h) (N++(List.replicate h (Cg (Fg f))).flatten)->Gd 5 (λg=>B<=g) f E j):=V (λj h E L s=>VL (n:=l.length) (m:=h) (Cg (Fg f)) rfl Z (by rw[<-a4]at s;exact s));have bi:U (∀(j a2:Sw) (u:Obj) (own:Option Nat) (h:Nat) (E:Value),Gd 5 (λg=>B<=g) f E j->(j.alloc u).grownBy a2 own->(∀(b bp:Nat) (d:Value),(j.alloc u).cell? (b bp)=some d->(∀i,l.length*5+i=bp->i<(List.replicate h (Cg (Fg f))).flatten.length->(List.replicate h (Cg (Fg f))).flatten[i]?=some d)->a2.cell? (b bp)=some d)->Gd 5 (λg=>B<=g) f E a2):=V (λj a2 u own h E s K c4=>(s.move (.of (Sr.alloc (Qc _) u))).over K.size (UF (n:=l.length) (m:=h) (Cg (Fg f)) rfl c4));clear P a4;have d0:U (∀(j:Sw) h d,(Cg (Fg f))[h]?=some d->(j.alloc (.cells #[O,O,f,(),()] 36)).cell? ((j:Addr).add h)=some d):=V (λj h d L=>World.news_of_block (Ak _ _) h d (by exact L));go_wp2_with (at_builtin;refine Uv _ I _ _ 22 I B 36 i0 (.agg #[O,O,O,(),()]) 5 56 underlying22 ba bm bn bo I Z (.slice a l.length t) l.length N I (a5.q _ _ dv.q) ⟨wr.heap.size,0,none⟩ 1 1 (Cg (Fg f)) I I (d0.q wr) az.q Z (by unfold maxLen;omega) Z (by simp;omega) ?_)
  intro al ai F cf b6 b4 cy dg c5;have T:U (D.grownBy F own):=V (c9.q.trans ((World.grownBy_alloc wr _ own).trans (by rw[<-af.q];exact b4)));have dd:=V b6;have bt:=V (ay.q F 1 _ Z (by exact cf));have eo:(w:Nat)+1<=F.heap.size:=by have:=T.q.size;have:=a0.q;omega
  clear ao ap aq ar au cf b6 b4 cy dg c5;have ao:=X (H.q F T.q) 0 _ rfl;have ap:=X (H.q F T.q) 1 _ rfl;have aq:=X (H.q F T.q) 2 _ rfl;have ar:=X (H.q F T.q) 3 _ rfl;have au:=X (H.q F T.q) 4 _ rfl;have d1:U (∀(j:Sw) h d,(Cg (Fg f)++Cg (Fg f))[h]?=some d->(j.alloc (.cells #[O,O,f,(),(),O,O,f,(),()] 36)).cell? ((j:Addr).add h)=some d):=V (λj h d L=>World.news_of_block (Ak _ _) h d (by exact L));have cd:U (∀d∈Cg (Fg f)++Cg (Fg f),d.oneCell'=true):=V (by
   intro d G;rw[Qbh]at G;exact G.elim (az.q d) (az.q d))
  go_wp2_with (at_builtin;refine Uv _ I _ _ 22 I B 36 i0 (.agg #[O,O,O,(),()]) 5 56 underlying22 ba bm bn bo I Z (.slice a l.length t) l.length N I (a5.q _ _ dd.q) F 2 2 (Cg (Fg f)++Cg (Fg f)) I I (d1.q F) cd.q Z (by unfold maxLen;omega) Z (by simp;omega) ?_)
  intro am aj A cg b7 a9 cz dh b0;have W:U (D.grownBy A own):=V (T.q.trans ((World.grownBy_alloc F _ own).trans (by rw[<-af.q];exact a9)));have de:=V b7;have cv:=V (bi.q F A _ _ 2 _ bt.q a9 (by exact b0));have cw:=V (ay.q A 2 _ Z (by exact cg));have ep:(w:Nat)+1<=A.heap.size:=by have:=W.q.size;have:=a0.q;omega
  clear ao ap aq ar au cg b7 a9 cz dh b0 bt;have ao:=X (H.q A W.q) 0 _ rfl;have ap:=X (H.q A W.q) 1 _ rfl;have aq:=X (H.q A W.q) 2 _ rfl;have ar:=X (H.q A W.q) 3 _ rfl;have au:=X (H.q A W.q) 4 _ rfl;have d2:U (∀(j:Sw) h d,(Cg (Fg f)++Cg (Fg f)++Cg (Fg f))[h]?=some d->(j.alloc (.cells #[O,O,f,(),(),O,O,f,(),(),O,O,f,(),()] 36)).cell? ((j:Addr).add h)=some d):=V (λj h d L=>World.news_of_block (Ak _ _) h d (by exact L));have dr:U (∀d∈Cg (Fg f)++Cg (Fg f)++Cg (Fg f),d.oneCell'=true):=V (by
   intro d G;rw[Qbh]at G;exact G.elim (cd.q d) (az.q d))
  go_wp2_with (at_builtin;refine Uv _ I _ _ 22 I B 36 i0 (.agg #[O,O,O,(),()]) 5 56 underlying22 ba bm bn bo I Z (.slice a l.length t) l.length N I (a5.q _ _ de.q) A 3 3 (Cg (Fg f)++Cg (Fg f)++Cg (Fg f)) I I (d2.q A) dr.q Z (by unfold maxLen;omega) Z (by simp;omega) ?_)
  intro an ak q ch b8 ax c0 di a8;have b2:U (D.grownBy q own):=V (W.q.trans ((World.grownBy_alloc A _ own).trans (by rw[<-af.q];exact ax)));have cx:U (∀g∈([.slice a l.length t,.slice (some al) (l.length+1) ai,.slice (some am) (l.length+2) aj,.slice (some an) (l.length+3) ak]:List Value),Gd 5 (λg=>B<=g) (1000000+(m:Int)) g q):=V (by
   rw[<-dx.q];intro g Q;simp only[List.mem_cons,List.not_mem_nil,or_false]at Q;rcases Q with rfl|rfl|rfl|rfl
   ·exact ay.q q 0 _ Z (by simpa using b8)
   ·exact bi.q A q _ _ 3 _ cv.q ax (by exact a8)
   ·exact bi.q A q _ _ 3 _ cw.q ax (by exact a8)
   exact ay.q q 3 _ Z (by exact ch))
  have eq:(w:Nat)+1<=q.heap.size:=by have:=b2.q.size;have:=a0.q;omega
  clear ao ap aq ar au ch b8 ax c0 di a8;have aw:U (w.grownBy q own):=V (Jk (own:=own) (Jk (own1:=none) (World.grownBy.refl w own) c7.q (λv s=>by cases s)) b2.q (λv s=>.inl s));have bh:U (∀g,g<B->some g≠own):=V (λg Q e=>by have:=bb.q g (af.q.trans e.symm);omega);have bd:q.heap[r]?=some (.cells #[u0,u1,.slice x k y,u2] 56 (0,0)):=(aw.q.block r dn (bh.q r dl)).trans dm.q;have bx:U (q.ownsRow C 22 1 (.slice x k y) k ah):=V (World.ownsRow.kept c3.q aw.q (by
   cases c2:(Value.slice x k y).ownBlock with
   |none=>exact .inl rfl
   |some v=>exact .inr (bh.q v (a7.q v c2))))
  have a3:=X bd 2 _ rfl;have bv:U (Below C w q):=V (Sqi (Below.refl C w) aw.q Z (λbq bk=>by have:=bb.q bq (af.q.trans bk);omega));have dk:=V bd;clear bd;have d3:U (∀(j:Sw) h d,([.slice a l.length t,.slice (some al) (l.length+1) ai,.slice (some am) (l.length+2) aj,.slice (some an) (l.length+3) ak]:List Value)[h]?=some d->(j.alloc (.cells #[.slice a l.length t,.slice (some al) (l.length+1) ai,.slice (some am) (l.length+2) aj,.slice (some an) (l.length+3) ak] 22)).cell? ((j:Addr).add h)=some d):=V (λj h d L=>World.news_of_block (Ak _ _) h d (by exact L));have ds:U (∀d∈([.slice a l.length t,.slice (some al) (l.length+1) ai,.slice (some am) (l.length+2) aj,.slice (some an) (l.length+3) ak]:List Value),d.oneCell'=true):=V (by
   intro d G;simp at G;rcases G with rfl|rfl|rfl|rfl<;>rfl)
  have c1:U (∀u,(q.alloc u).ownsRow C 22 1 (.slice x k y) k ah):=V (λu=>World.ownsRow.alloc bx.q u);have c6:U (∀u M d,(q.alloc u).grownBy M (Value.slice x k y).ownBlock->M.heap[r]?=some (.cells #[u0,u1,.slice x k y,u2] 56 (0,0))/\Below C w (M.setCell (r 2) d)/\(∀g,g<q.heap.size->g≠r->(Value.slice x k y).ownBlock≠some g->(M.setCell (r 2) d).heap[g]?=q.heap[g]?)/\q.heap.size<=(M.setCell (r 2) d).heap.size):=V (λu M d K=>by
   have cq:Below C w (q.alloc u):=bv.q.alloc (by have:=bv.q.size;omega) u;have cr:Below C w M:=Sqi cq K (by simp;omega) (λbq bk=>by have:=bx.q.lt bq bk;omega);have ct:=K.size;simp at ct;refine⟨?_,cr.setCell (p:=⟨r,2,none⟩) cu d,λg Q bf bg=>?_,by simp[World.setCell];omega⟩
   ·rw[K.block r (by simp;omega) (λe=>cl.q e.symm),Sqj _ _ _ Z];exact dk.q
   rw[Below.heap_setCell _ _ _ _ bf,K.block g (by simp;omega) (λe=>bg e.symm),Sqj _ _ _ Q])
  go_wp2_with (at_builtin;refine wpList_append_lies _ I _ _ 39 I C 22 dy (.slice none 0 0) 1 24 underlying39 L da db dc I Z (.slice x k y) k ah I (c1.q _) q 4 4 [.slice a l.length t,.slice (some al) (l.length+1) ai,.slice (some am) (l.length+2) aj,.slice (some an) (l.length+3) ak] I I (d3.q q) ds.q Z (by unfold maxLen;omega) Z (by simp;omega) ((q:Nat)+1) Y ?_)
  intro ab bs M ci b5 a6 dj;have R:=V (λd=>c6.q _ M d b5);have b3:ab≠r:=by
   rcases a6 with s|s
   ·exact λe=>cl.q (by rw[s,e])
   omega
  have dw:=V (λd=>World.ownsRow.kept ci (Mh M r 2 d) (.inr (λe=>b3 (by simpa [Value.ownBlock]using e))));have bu:=V a6;have d4:=X (R.q .nilIface).1 2 _ rfl;have ef:=Av (R.q .nilIface).1 2;clear ci b5 a6 dj a3 b3;go_wp2;go_end0;refine⟨rfl,V ⟨.slice (some ab) (k+4) bs,_,Aj (cs:=[u0,u1,.slice x k y,u2]) (R.q .nilIface).1 2 _,dw.q _,rfl,λg Q=>?_,λg Q bf bg=>?_,λv K=>?_,(R.q _).2.1⟩⟩
  ·refine(cx.q g Q).move (A':=λz=>B<=z/\(Value.slice (some ab) (k+4) bs).ownBlock≠some z) ⟨(R.q _).2.2.2,λz a1 b9=>⟨⟨a1,λe=>?_⟩,(R.q _).2.2.1 z b9 Z (λe=>by have:=a7.q z e;omega)⟩⟩;obtain rfl:ab=z:=by simpa [Value.ownBlock]using e
   rcases bu.q with s|s
   ·have:=a7.q ab s;omega
   omega
  ·rw[(R.q _).2.2.1 g Z bf bg];exact aw.q.block g Z (bh.q g Q)
  obtain rfl:ab=v:=by simpa [Value.ownBlock]using K
  rcases bu.q with s|s
  ·exact .inl s
  exact .inr Z
theorem zai (A q B m:Nat)(a:So)(t:Nat)(l:List Tl)(x:So)(k y:Nat)(ac:List Value)(u0 u1 u2:Value)(w:Sw)(cr:A<=q)(eb:A<=B)(ea:B<=w)(ba:w.heap[q]?=some (.cells #[u0,u1,u2,.slice x k y] 56 (0,0)))(bw:w.ownsRow A 65 1 (.slice x k y) k ac)(eh:k<=1000000)(b9:k=4*m)(R:Bw B a t l w)(b7:l.length<=900000)
  (dj:q<B) (bu:∀v,(Value.slice x k y).ownBlock=some v->v<B) (ci:(Value.slice x k y).ownBlock≠some q) :
  Calls prog 54 #[.pointer (some (q 2)),.slice a l.length t] w λe ap=>e=.returned (.tuple #[])/\U (∃(D:Value) (bp:List Value),ap.heap[q]?=some (.cells #[u0,u1,u2,D] 56 (0,0))/\ap.ownsRow A 65 1 D (k+4) (ac++bp)/\bp.length=4/\(∀g∈bp,Gd 3 (λz=>B<=z/\D.ownBlock≠some z) (1000000+(m:Int)) g ap)/\(∀g,g<B->g≠q->(Value.slice x k y).ownBlock≠some g->ap.heap[g]?=w.heap[g]?)/\(∀v,D.ownBlock=some v->(Value.slice x k y).ownBlock=some v\/w.heap.size<=v)/\Below A w ap):=by
 obtain⟨i0,a8,bk,bl,bm⟩:=info_parts Tryz.Wp;obtain⟨dw,H,c8,c9,da⟩:=info_parts Tryz.XZ;have dl:q<w:=Z;have a1:=X ba 3 _ rfl;have a9:=V (R.lt);have dk:=V ba;have c1:=V bw;have ds:=V R;have a5:=V bu;have cj:=V ci;have dm:=V b9;clear ba bw R bu ci b9;go_enter func54,ntmps54;go_upto_region 1 with fail
 obtain⟨f,cn⟩:∃f:Int,f=1000000+(k:Int) / 4:=⟨_,rfl⟩;rw[<-cn];have dv:U (f=1000000+(m:Int)):=V (by have:=dm.q;omega);obtain⟨C,aa⟩:=Qzz (w.alloc (.cells #[O,(),f] 71));rw[<-aa];have ck:C.heap.size=(w:Nat)+1:=by rw[aa];simp
 have cl:C.heap[w.heap.size]?=some (.cells #[O,(),f] 71 (0,0)):=by rw[aa];exact Ak _ _
 have bz:w.grownBy C none:=by rw[aa];exact World.grownBy_alloc _ _ _
 have cc:Bw B a t l C:=by rw[aa];exact ds.q.alloc _
 have ax:=V ck;have c5:=V bz;have dr:=V cc;obtain⟨own,R⟩:=Qyy ((Value.slice a l.length t).ownBlock);have ab:U ((Value.slice a l.length t).ownBlock=own):=V R;have cm:own≠some w.heap.size:=λe=>by have:=a9.q w (R.trans e);omega
 have T:U (∀wr,C.grownBy wr own->wr.heap[w.heap.size]?=some (.cells #[O,(),f] 71 (0,0))):=V (λwr G=>(G.block w Z (λe=>cm e.symm)).trans cl);clear cn aa ck cl bz cc R a1 cm;go_wp2;go_loopw [5] (λi wr=>∃s:Nat,s<=l.length/\i=.int .i64 s/\U (Bw B a t (List.replicate s (Fb f)++l.drop s) wr/\C.grownBy wr own)) (λi _=>l.length-(intOf i).toNat)
 case atStart=>exact⟨0,Qt _,rfl,V ⟨by simpa using dr.q,World.grownBy.refl _ _⟩⟩
 case round=>
  obtain⟨s,eg,rfl,N⟩:=hrel;have ay:=T.q wr N.q.2;have am:=X ay 0 _ rfl;have an:=X ay 1 _ rfl;have ao:=X ay 2 _ rfl;clear ay;by_cases b8:s<l.length
  ·obtain⟨z,az⟩:∃z,l[s]?=some z:=⟨l[s],Qg b8⟩;have bj:=zis l s (Fb f) z az;obtain⟨v,c6,ec,ed,d3,d4,d5⟩:=AO N.q.1 s z bj;subst c6;have aq:=XO N.q.1;have bh:=zjq N.q.1 s (Fb f) z bj;rw[zfg l s (Fb f) b8]at bh;have ca:own=some v:=ab.q.symm;have ch:=V bh;have ef:(s:Int)<(l.length:Int):=Z;have ee:(0:Int)<=(s:Int):=Z;have d6:=aq (s*3);have d7:=aq (s*3+1);have d8:=aq (s*3+2);have dn:=V ca;clear bh aq ca bj az;go_wp2;go_roundw
   case rel=>exact⟨s+1,Z,by go_num,V ⟨ch.q.1,N.q.2.trans (by rw[dn.q];exact ch.q.2)⟩⟩
   case measure=>exact Sj
  have dd:s=l.length:=Z;subst dd;obtain⟨M,a2⟩:=Qyy ((List.replicate l.length (Cc (Fb f))).flatten);have el:(w:Nat)+1<=wr.heap.size:=by have:=N.q.2.size;have:=ax.q;omega
  have dt:U (wr.ownsRow B 71 3 (.slice a l.length t) l.length M):=V (by
   have:=N.q.1;rw[List.drop_length,Qbk]at this;unfold Bw at this;rw[List.length_replicate]at this;rw[<-a2];simpa [Cb]using this)
  have c7:U (C.grownBy wr own):=V N.q.2;have aw:U (∀d∈Cc (Fb f),d.oneCell'=true):=V (by
   intro d F;simp[Cc,Fb]at F;rcases F with rfl|rfl|rfl<;>rfl)
  have a3:U (∀(j:Sw) u,j.ownsRow B 71 3 (.slice a l.length t) l.length M->(j.alloc u).ownsRow B 71 3 (.slice a l.length t) l.length M):=V (λj u r=>World.ownsRow.alloc r u);have av:U (∀(j:Sw) (h:Nat) (D:Value),h<=3->j.ownsRow B 71 3 D (l.length+h) (M++(List.replicate h (Cc (Fb f))).flatten)->Gd 3 (λg=>B<=g) f D j):=V (λj h D H r=>VL (n:=l.length) (m:=h) (Cc (Fb f)) rfl Z (by rw[<-a2]at r;exact r));have bg:U (∀(j a0:Sw) (u:Obj) (own:Option Nat) (h:Nat) (D:Value),Gd 3 (λg=>B<=g) f D j->(j.alloc u).grownBy a0 own->(∀(b bn:Nat) (d:Value),(j.alloc u).cell? (b bn)=some d->(∀i,l.length*3+i=bn->i<(List.replicate h (Cc (Fb f))).flatten.length->(List.replicate h (Cc (Fb f))).flatten[i]?=some d)->a0.cell? (b bn)=some d)->Gd 3 (λg=>B<=g) f D a0):=V (λj a0 u own h D r G c2=>(r.move (.of (Sr.alloc (Qc _) u))).over G.size (UF (n:=l.length) (m:=h) (Cc (Fb f)) rfl c2));clear N a2;have dx:U (∀(j:Sw) h d,(Cc (Fb f))[h]?=some d->(j.alloc (.cells #[O,(),f] 71)).cell? ((j:Addr).add h)=some d):=V (λj h d H=>World.news_of_block (Ak _ _) h d (by exact H));go_wp2_with (at_builtin;refine Uv _ I _ _ 65 I B 71 i0 (.agg #[O,(),O]) 3 32 underlying65 a8 bk bl bm I Z (.slice a l.length t) l.length M I (a3.q _ _ dt.q) ⟨wr.heap.size,0,none⟩ 1 1 (Cc (Fb f)) I I (dx.q wr) aw.q Z (by unfold maxLen;omega) Z (by simp;omega) ?_)
  intro ah ae K cd b4 b2 cw de c3;have ak:U (C.grownBy K own):=V (c7.q.trans ((World.grownBy_alloc wr _ own).trans (by rw[<-ab.q];exact b2)));have db:=V b4;have br:=V (av.q K 1 _ Z (by exact cd));have ei:(w:Nat)+1<=K.heap.size:=by have:=ak.q.size;have:=ax.q;omega
  clear am an ao cd b4 b2 cw de c3;have am:=X (T.q K ak.q) 0 _ rfl;have an:=X (T.q K ak.q) 1 _ rfl;have ao:=X (T.q K ak.q) 2 _ rfl;have dy:U (∀(j:Sw) h d,(Cc (Fb f)++Cc (Fb f))[h]?=some d->(j.alloc (.cells #[O,(),f,O,(),f] 71)).cell? ((j:Addr).add h)=some d):=V (λj h d H=>World.news_of_block (Ak _ _) h d (by exact H));have cb:U (∀d∈Cc (Fb f)++Cc (Fb f),d.oneCell'=true):=V (by
   intro d F;rw[Qbh]at F;exact F.elim (aw.q d) (aw.q d))
  go_wp2_with (at_builtin;refine Uv _ I _ _ 65 I B 71 i0 (.agg #[O,(),O]) 3 32 underlying65 a8 bk bl bm I Z (.slice a l.length t) l.length M I (a3.q _ _ db.q) K 2 2 (Cc (Fb f)++Cc (Fb f)) I I (dy.q K) cb.q Z (by unfold maxLen;omega) Z (by simp;omega) ?_)
  intro ai af E ce b5 a7 cx df bx;have al:U (C.grownBy E own):=V (ak.q.trans ((World.grownBy_alloc K _ own).trans (by rw[<-ab.q];exact a7)));have dc:=V b5;have ct:=V (bg.q K E _ _ 2 _ br.q a7 (by exact bx));have cu:=V (av.q E 2 _ Z (by exact ce));have ej:(w:Nat)+1<=E.heap.size:=by have:=al.q.size;have:=ax.q;omega
  clear am an ao ce b5 a7 cx df bx br;have am:=X (T.q E al.q) 0 _ rfl;have an:=X (T.q E al.q) 1 _ rfl;have ao:=X (T.q E al.q) 2 _ rfl;have d0:U (∀(j:Sw) h d,(Cc (Fb f)++Cc (Fb f)++Cc (Fb f))[h]?=some d->(j.alloc (.cells #[O,(),f,O,(),f,O,(),f] 71)).cell? ((j:Addr).add h)=some d):=V (λj h d H=>World.news_of_block (Ak _ _) h d (by exact H));have dp:U (∀d∈Cc (Fb f)++Cc (Fb f)++Cc (Fb f),d.oneCell'=true):=V (by
   intro d F;rw[Qbh]at F;exact F.elim (cb.q d) (aw.q d))
  go_wp2_with (at_builtin;refine Uv _ I _ _ 65 I B 71 i0 (.agg #[O,(),O]) 3 32 underlying65 a8 bk bl bm I Z (.slice a l.length t) l.length M I (a3.q _ _ dc.q) E 3 3 (Cc (Fb f)++Cc (Fb f)++Cc (Fb f)) I I (d0.q E) dp.q Z (by unfold maxLen;omega) Z (by simp;omega) ?_)
  intro aj ag o cf b6 au cy dg a6;have b0:U (C.grownBy o own):=V (al.q.trans ((World.grownBy_alloc E _ own).trans (by rw[<-ab.q];exact au)));have cv:U (∀g∈([.slice a l.length t,.slice (some ah) (l.length+1) ae,.slice (some ai) (l.length+2) af,.slice (some aj) (l.length+3) ag]:List Value),Gd 3 (λg=>B<=g) (1000000+(m:Int)) g o):=V (by
   rw[<-dv.q];intro g P;simp only[List.mem_cons,List.not_mem_nil,or_false]at P;rcases P with rfl|rfl|rfl|rfl
   ·exact av.q o 0 _ Z (by simpa using b6)
   ·exact bg.q E o _ _ 3 _ ct.q au (by exact a6)
   ·exact bg.q E o _ _ 3 _ cu.q au (by exact a6)
   exact av.q o 3 _ Z (by exact cf))
  have ek:(w:Nat)+1<=o.heap.size:=by have:=b0.q.size;have:=ax.q;omega
  clear am an ao cf b6 au cy dg a6;have ar:U (w.grownBy o own):=V (Jk (own:=own) (Jk (own1:=none) (World.grownBy.refl w own) c5.q (λv r=>by cases r)) b0.q (λv r=>.inl r));have bf:U (∀g,g<B->some g≠own):=V (λg P e=>by have:=a9.q g (ab.q.trans e.symm);omega);have bb:o.heap[q]?=some (.cells #[u0,u1,u2,.slice x k y] 56 (0,0)):=(ar.q.block q dl (bf.q q dj)).trans dk.q;have bv:U (o.ownsRow A 65 1 (.slice x k y) k ac):=V (World.ownsRow.kept c1.q ar.q (by
   cases c0:(Value.slice x k y).ownBlock with
   |none=>exact .inl rfl
   |some v=>exact .inr (bf.q v (a5.q v c0))))
  have a1:=X bb 3 _ rfl;have bt:U (Below A w o):=V (Sqi (Below.refl A w) ar.q Z (λbo bi=>by have:=a9.q bo (ab.q.trans bi);omega));have di:=V bb;clear bb;have d1:U (∀(j:Sw) h d,([.slice a l.length t,.slice (some ah) (l.length+1) ae,.slice (some ai) (l.length+2) af,.slice (some aj) (l.length+3) ag]:List Value)[h]?=some d->(j.alloc (.cells #[.slice a l.length t,.slice (some ah) (l.length+1) ae,.slice (some ai) (l.length+2) af,.slice (some aj) (l.length+3) ag] 65)).cell? ((j:Addr).add h)=some d):=V (λj h d H=>World.news_of_block (Ak _ _) h d (by exact H));have dq:U (∀d∈([.slice a l.length t,.slice (some ah) (l.length+1) ae,.slice (some ai) (l.length+2) af,.slice (some aj) (l.length+3) ag]:List Value),d.oneCell'=true):=V (by
   intro d F;simp at F;rcases F with rfl|rfl|rfl|rfl<;>rfl)
  have cz:U (∀u,(o.alloc u).ownsRow A 65 1 (.slice x k y) k ac):=V (λu=>World.ownsRow.alloc bv.q u);have c4:U (∀u L d,(o.alloc u).grownBy L (Value.slice x k y).ownBlock->L.heap[q]?=some (.cells #[u0,u1,u2,.slice x k y] 56 (0,0))/\Below A w (L.setCell (q 3) d)/\(∀g,g<o.heap.size->g≠q->(Value.slice x k y).ownBlock≠some g->(L.setCell (q 3) d).heap[g]?=o.heap[g]?)/\o.heap.size<=(L.setCell (q 3) d).heap.size):=V (λu L d G=>by
   have co:Below A w (o.alloc u):=bt.q.alloc (by have:=bt.q.size;omega) u;have cp:Below A w L:=Sqi co G (by simp;omega) (λbo bi=>by have:=bv.q.lt bo bi;omega);have cq:=G.size;simp at cq;refine⟨?_,cp.setCell (p:=⟨q,3,none⟩) cr d,λg P bc bd=>?_,by simp[World.setCell];omega⟩
   ·rw[G.block q (by simp;omega) (λe=>cj.q e.symm),Sqj _ _ _ Z];exact di.q
   rw[Below.heap_setCell _ _ _ _ bc,G.block g (by simp;omega) (λe=>bd e.symm),Sqj _ _ _ P])
  go_wp2_with (at_builtin;refine wpList_append_lies _ I _ _ 40 I A 65 dw (.slice none 0 0) 1 24 underlying40 H c8 c9 da I Z (.slice x k y) k ac I (cz.q _) o 4 4 [.slice a l.length t,.slice (some ah) (l.length+1) ae,.slice (some ai) (l.length+2) af,.slice (some aj) (l.length+3) ag] I I (d1.q o) dq.q Z (by unfold maxLen;omega) Z (by simp;omega) ((o:Nat)+1) Y ?_)
  intro W bq L cg b3 a4 dh;have Q:=V (λd=>c4.q _ L d b3);have b1:W≠q:=by
   rcases a4 with r|r
   ·exact λe=>cj.q (by rw[r,e])
   omega
  have du:=V (λd=>World.ownsRow.kept cg (Mh L q 3 d) (.inr (λe=>b1 (by simpa [Value.ownBlock]using e))));have bs:=V a4;have d2:=X (Q.q .nilIface).1 3 _ rfl;have d9:=Av (Q.q .nilIface).1 3;clear cg b3 a4 dh a1 b1;go_wp2;go_end0;refine⟨rfl,V ⟨.slice (some W) (k+4) bq,_,Aj (cs:=[u0,u1,u2,.slice x k y]) (Q.q .nilIface).1 3 _,du.q _,rfl,λg P=>?_,λg P bc bd=>?_,λv G=>?_,(Q.q _).2.1⟩⟩
  ·refine(cv.q g P).move (A':=λz=>B<=z/\(Value.slice (some W) (k+4) bq).ownBlock≠some z) ⟨(Q.q _).2.2.2,λz az b7=>⟨⟨az,λe=>?_⟩,(Q.q _).2.2.1 z b7 Z (λe=>by have:=a5.q z e;omega)⟩⟩;obtain rfl:W=z:=by simpa [Value.ownBlock]using e
   rcases bs.q with r|r
   ·have:=a5.q W r;omega
   omega
  ·rw[(Q.q _).2.2.1 g Z bc bd];exact ar.q.block g Z (bf.q g P)
  obtain rfl:W=v:=by simpa [Value.ownBlock]using G
  rcases bs.q with r|r
  ·exact .inl r
  exact .inr Z
def CP (c:Nat)(h:So)(j:Nat)(w:Sw):Prop:=∀i:Nat,i<j->∃(a:Nat) (d:So) (n g:Nat),h=some ⟨a,0,none⟩/\a<w.heap.size/\w.cell? (a i)=some (.slice d n g)/\n<=1000000/\∀f,f<n->∃b,d=some ⟨b,0,none⟩/\b<w.heap.size/\w.cell? ⟨b,f*c+2,none⟩=some (.int .i64 (1000000+(i:Int) / 4))
theorem OU {o:Nat->Nat}{m e c d:Nat}{j:So}{E:Nat}{l:List Value}{w:Sw}(a:w.ownsRow m e 1 (.slice j d E) d l)(C:∀i k,l[i]?=some k->Gd c (λF=>o F=0) (1000000+((i / 4:Nat):Int)) k w):CP c j d w:=by
 intro i M;have h:i<l.length:=by rw[a.1];omega
 obtain⟨p,n,q,r,s,t⟩:=C i l[i] (Qg h);rcases a.2 with ⟨_,K⟩|⟨g,G,H,u,L,v,_⟩
 ·omega
 injection u with e1 e2 e3
 subst e1;have f:=World.ownsRow.cells a (g:=g) rfl i _ (Qg h);rw[show (g:Addr).add i=⟨g,i,none⟩ by simp[Addr.add];omega,r]at f;refine⟨g,p,n,q,rfl,(Qq.1 v).1,f,s,λD A=>?_⟩;obtain⟨b,x,_,y,z⟩:=t D A;refine⟨b,x,y,?_⟩;rw[z];simp
theorem zbr {ah:Nat->Nat}{ag r:Nat}{a1:Nat->Value}{m:Nat->List Value}{a2:List (Nat×ByteArray)}(w:Sw)(k:WS ah ag r a1 m a2 w)(ay:(m 2).length<=1000000)(a0:(m 3).length<=1000000):Calls prog 37 #[.pointer (some (r 2))] w λe a3=>e=.returned true/\Below w w a3:=by
 have aa:=k.lt;have hd:=k.hd;obtain⟨T,ae,Q⟩:=ownsRow_form (k.ro 2 Z);obtain⟨W,af,R⟩:=ownsRow_form (k.ro 3 Z);have E:CP 5 T (m 2).length w:=OU (by rw[<-Q];exact k.ro 2 Z) k.nm;have F:CP 3 W (m 3).length w:=OU (by rw[<-R];exact k.ro 3 Z) k.tm;rw[Q,R]at hd;have h:w.cell? (r 2)=some (.slice T (m 2).length ae):=X hd 2 _ rfl;have j:w.cell? (r 3)=some (.slice W (m 3).length af):=X hd 3 _ rfl;obtain⟨o,ab⟩:=Qyy ((m 2).length);obtain⟨q,ac⟩:=Qyy ((m 3).length);rw[ab]at E h ay;rw[ac]at F j a0;have C:U (∀wr,Below w w wr->(wr.cell? (r 2)=some (.slice T o ae)/\wr.cell? (r 3)=some (.slice W q af))/\∀b D,b<w.heap.size->wr.cell? ⟨b,D,none⟩=w.cell? ⟨b,D,none⟩):=V (λwr d=>⟨⟨(d.cell (p:=⟨r,2,none⟩) aa).trans h,(d.cell (p:=⟨r,3,none⟩) aa).trans j⟩,λb D ax=>d.cell (p:=⟨b,D,none⟩) ax⟩);have am:=V E;have an:=V F;clear Q R hd k ab ac E F h j;go_enter func37,ntmps37;go_wp2;go_loopw [3,4,5] (λv i _ wr=>∃a:Nat,a<=o/\v=.bool true/\i=.int .i64 a/\Below w w wr) (λ_ i _ _=>o-(intOf i).toNat)
 case atStart=>exact⟨0,Qt _,rfl,rfl,Sr⟩
 case round=>
  obtain⟨a,av,rfl,rfl,d⟩:=hrel;obtain⟨⟨h,j⟩,f⟩:=C.q wr d;have y:=V d;by_cases M:a<o
  ·obtain⟨s,ai,n,al,rfl,t,l,az,A⟩:=am.q a M;rw[<-f s a t]at l;have L:=V f;have P:=V A;have ao:(0:Int)<=(a:Int):=Z;have ap:(a:Int)<(o:Int):=Z;obtain⟨x,G⟩:=Qzz (wr);subst G;clear d f A;go_wp2;go_loopw [3,5] (λv u wr=>∃g:Nat,g<=n/\v=.bool true/\u=.int .i64 g/\Below w w wr) (λ_ u _=>n-(intOf u).toNat)
   case atStart=>exact⟨0,Qt _,rfl,rfl,y.q⟩
   case round=>
    obtain⟨g,aw,rfl,rfl,d⟩:=hrel;obtain⟨⟨aj,ak⟩,f⟩:=C.q wr d;have au:=(f s a t).trans ((L.q s a t).symm.trans l);have z:=V d;by_cases N:g<n
    ·obtain⟨b,rfl,K,H⟩:=P.q g N;rw[<-f b _ K]at H;have aq:(0:Int)<=(g:Int):=Z;have ar:(g:Int)<(n:Int):=Z;clear d f h j l;go_wp2;go_roundw
     case rel=>exact⟨g+1,Z,rfl,by go_num,z.q⟩
     case measure=>exact Sj
    obtain rfl:g=n:=Z;clear d f h j l;go_wp2;go_roundw
    case rel=>exact⟨a+1,Z,rfl,by go_num,z.q⟩
    case measure=>exact Sj
  obtain rfl:a=o:=Z;clear d f;go_wp2;go_loopw [3,6,7] (λv i _ wr=>∃a:Nat,a<=q/\v=.bool true/\i=.int .i64 a/\Below w w wr) (λ_ i _ _=>q-(intOf i).toNat)
  case atStart=>exact⟨0,Qt _,rfl,rfl,y.q⟩
  case round=>
   obtain⟨a,av,rfl,rfl,d⟩:=hrel;obtain⟨⟨h,j⟩,f⟩:=C.q wr d;have y:=V d;by_cases M:a<q
   ·obtain⟨s,ai,n,al,rfl,t,l,az,A⟩:=an.q a M;rw[<-f s a t]at l;have L:=V f;have P:=V A;have ao:(0:Int)<=(a:Int):=Z;have ap:(a:Int)<(q:Int):=Z;obtain⟨x,G⟩:=Qzz (wr);subst G;clear d f A;go_wp2;go_loopw [3,7] (λv u wr=>∃g:Nat,g<=n/\v=.bool true/\u=.int .i64 g/\Below w w wr) (λ_ u _=>n-(intOf u).toNat)
    case atStart=>exact⟨0,Qt _,rfl,rfl,y.q⟩
    case round=>
     obtain⟨g,aw,rfl,rfl,d⟩:=hrel;obtain⟨⟨aj,ak⟩,f⟩:=C.q wr d;have au:=(f s a t).trans ((L.q s a t).symm.trans l);have z:=V d;by_cases N:g<n
     ·obtain⟨b,rfl,K,H⟩:=P.q g N;rw[<-f b _ K]at H;have aq:(0:Int)<=(g:Int):=Z;have ar:(g:Int)<(n:Int):=Z;clear d f h j l;go_wp2;go_roundw
      case rel=>exact⟨g+1,Z,rfl,by go_num,z.q⟩
      case measure=>exact Sj
     obtain rfl:g=n:=Z;clear d f h j l;go_wp2;go_roundw
     case rel=>exact⟨a+1,Z,rfl,by go_num,z.q⟩
     case measure=>exact Sj
   obtain rfl:a=q:=Z;clear d f;go_wp2;go_ret;exact⟨rfl,y.q⟩
