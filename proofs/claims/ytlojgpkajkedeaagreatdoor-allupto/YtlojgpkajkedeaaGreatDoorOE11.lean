import Derived.Test.YtlojgpkajkedeaaGreatDoorOW8
import Derived.Test.YtlojgpkajkedeaaGreatDoorOE5
import Derived.Test.YtlojgpkajkedeaaGreatDoorOD4
set_option maxHeartbeats 0
set_option maxRecDepth 100000
namespace Go.Proofs.YtlojgpkajkedeaaGreatDoor
open Go.RowKit Go.Proofs.Tryz
structure Bj where
 j:Nat
 image:Bool
 dead:Bool
def Fq (d:List Mem)(f:List Bj):List Value:=(f.map (λa=>[Value.pointer ((d[a.j]?).map Mem.ad),.bool a.image,.bool a.dead])).flatten
def Il (a:Sb)(d k:Nat)(f:Value):List Value:=[.string a,.int .i64 (d:Nat),.int .i64 (k:Nat),undef,undef,f]
structure Cut (C:Nat)(ct:Sb)(f k:Nat)(ms:List Mem)(os:List Bj)(sa:So)(sc:Nat)(A:Nat->Prop)(w:Sw):Prop where
 ch:Ch w C 3 168 (Il ct f k (.slice sa os.length sc)) ms
 Ab:Kd w A ms
 dead:∀x,A x->x<w.heap.size/\x∉C::Ad ms/\some x≠(Value.slice sa os.length sc).ownBlock
 own:w.ownsRow (C+1) 253 3 (.slice sa os.length sc) os.length (Fq ms os)
 sep:∀x∈Ad ms,some x≠(Value.slice sa os.length sc).ownBlock
 above:∀x∈Ad ms,C<x
 inl:∀x∈os,x.j<ms.length
 up:os.Pairwise (λx y=>x.j<y.j)
 fk:f<=k
 kl:k<=ct.size
 small:ct.size<=1000000
 bytes:txt (ms.map Mem.p)<=f
 runs:∀x∈ms,x.p.rs<=1000000
theorem Cut.cells {C:Nat}{d:Sb}{f k:Nat}{a:List Mem}{g:List Bj}{h:So}{j:Nat}{A:Nat->Prop}{w:Sw}(l:Cut C d f k a g h j A w):w.heap[C]?=some (.cells [.string d,.int .i64 (f:Nat),.int .i64 (k:Nat),.pointer (hd a none),.pointer (A9 a none),.slice h g.length j].toArray 168 (0,0)):=l.ch.hdr.1
theorem Cut.lt {C:Nat}{a:Sb}{d k:Nat}{g:List Mem}{h:List Bj}{j:So}{l:Nat}{A:Nat->Prop}{w:Sw}(f:Cut C a d k g h j l A w):C<w:=f.ch.lt
theorem Cut.below {C:Nat}{m:Sb}{o k:Nat}{p:List Mem}{h:List Bj}{j:So}{l:Nat}{A:Nat->Prop}{w w':Sw}(a:Cut C m o k p h j l A w)(g:Below w w w'):Cut C m o k p h j l A w':=
 ⟨a.ch.move (λf d=>g.block f (by rcases Sc.1 d with rfl|d;exact a.ch.lt;exact a.ch.mlt f d)),λe q=>(a.Ab e q).move (λf d=>d) (λf d=>g.block f (a.dead f d).1),λf d=>⟨Qh (a.dead f d).1 g.size,(a.dead f d).2⟩,
  a.own.kept (Below.Ll g) (by
   cases a:(Value.slice j h.length l).ownBlock with
   |none=>exact .inl rfl
   |some r=>exact .inr Y),a.sep,a.above,a.inl,a.up,a.fk,a.kl,a.small,a.bytes,a.runs⟩
theorem Nf (C:Nat)(a:Sb)(f k:Nat)(h j l:Value)(w:Sw)(d:w.heap[C]?=some (.cells [.string a,.int .i64 (f:Nat),.int .i64 (k:Nat),h,j,l].toArray 168 (0,0)))(m:k<=a.size):Calls prog 154 #[.pointer (some C)] w λe g=>e=.returned (.string (a.extract k a.size))/\w.drew=g:=by
 have o:=X d 0 _ rfl;have p:=X d 2 _ rfl;clear d;go_enter func154,ntmps154;go_wp2_with fail
 go_region
 go_wp2;go_ret;exact⟨rfl,rfl⟩
theorem Ng (C:Nat)(a t:Sb)(f k:Nat)(j l m:Value)(w:Sw)(g:w.heap[C]?=some (.cells [.string a,.int .i64 (f:Nat),.int .i64 (k:Nat),j,l,m].toArray 168 (0,0)))(p:k<=a.size):Calls prog 159 #[.pointer (some C),t] w λe d=>e=.returned (.bool (Lib.hasPrefix (a.data.toList.drop k) t))/\w.drew=d:=by
 have o:=V (Nf C a f k j l m w g p);have h:=V (λq=>Tryz.strings_HasPrefix (a.extract k a.size) t q);rw[Gw]at h;clear g;go_enter func159,ntmps159;go_wp2_with fail
 apply o.m;rintro e d⟨rfl,rfl⟩;go_wp2_with fail
 refine(h.q _).mono ?_;rintro e d⟨rfl,rfl⟩;go_wp2;go_ret;exact⟨rfl,rfl⟩
theorem Vx (a r:List Mem)(d:List Bj)(g:∀f∈d,f.j<a.length):Fq (a++r) d=Fq a d:=by
 unfold Fq;congr 1
 apply List.map_congr_left
 intro f h;rw[Qbd (g f h)]
theorem Cut.grow {C:Nat}{s:Sb}{M k t x:Nat}{j r:List Mem}{l:List Bj}{p:So}{q:Nat}{A A':Nat->Prop}{w w':Sw}(f:Cut C s M k j l p q A w)(Q:Ch w' C 3 168 (Il s t x (.slice p l.length q)) (j++r))(z:Fr (C::Ad j) w w')(h:∀a∈Ad r,w<=a)(aa:Kd w' A' r)(N:∀a,A a->A' a)(P:∀a,A' a->A a\/(w.heap.size<=a/\a<w'.heap.size/\a∉Ad r))(af:txt (j.map Mem.p)+txt (r.map Mem.p)<=t)(R:t<=x)(ab:x<=s.size)(ae:∀a∈r,a.p.rs<=1000000):Cut C s t x (j++r) l p q A' w':=by
 have v:=f.own.lt;have ah:=f.lt;have y:Ad (j++r)=Ad j++Ad r:=Dk _ _;have ac:w'.ownsRow (C+1) 253 3 (.slice p l.length q) l.length (Fq (j++r) l):=by
  rw[Vx _ _ _ f.inl];rcases f.own.2 with o|⟨m,H,K,F,T,W,ag⟩
  ·exact⟨f.own.1,.inl o⟩
  refine⟨f.own.1,.inr ⟨m,H,K,F,T,?_,ag⟩⟩;have D:(Value.slice p l.length q).ownBlock=some m:=by rw[F];rfl
  rw[z.block m (v m D).2 (λh=>by
   rcases Sc.1 h with h|h
   ·have:=(v m D).1;omega
   exact f.sep m h D.symm)]
  exact W
 refine⟨Q,?_,?_,ac,?_,?_,?_,f.up,R,ab,f.small,?_,?_⟩
 ·intro a d;rcases Qbh.1 d with d|d
  ·exact(f.Ab a d).move N (λE G=>z.block E (f.dead E G).1 (f.dead E G).2.1)
  exact aa a d
 ·intro a d;rw[y];rcases P a d with u|u
  ·have o:=f.dead a u;refine⟨Qh o.1 z.size,λg=>?_,o.2.2⟩;rcases Sc.1 g with g|g
   ·exact o.2.1 (by rw[g];exact Qx)
   rcases Qbh.1 g with g|g
   ·exact o.2.1 (Qo _ g)
   have:=h a g;omega
  refine⟨u.2.1,λg=>?_,λe=>?_⟩
  ·rcases Sc.1 g with g|g
   ·omega
   rcases Qbh.1 g with g|g
   ·have:=f.ch.mlt a g;omega
   exact u.2.2 g
  have:=(v _ e.symm).2;omega
 ·intro a d;rw[y]at d;rcases Qbh.1 d with d|d
  ·exact f.sep a d
  intro L;have:=(v _ L.symm).2;have:=h a d;omega
 ·intro a d;rw[y]at d;rcases Qbh.1 d with d|d
  ·exact f.above a d
  have:=h a d;omega
 ·intro a d;have:=f.inl a d;simp;omega
 ·rw[Qv,Rv];exact af
 intro a d;rcases Qbh.1 d with d|d
 ·exact f.runs a d
 exact ae a d
theorem Cut.Mx {C:Nat}{g:Sb}{h k:Nat}{f:List Mem}{l:List Bj}{m:So}{o:Nat}{A:Nat->Prop}{w w':Sw}(d:Cut C g h k f l m o A w)(j:Fr (C::Ad f) w w'):Below C w w':=
 j.below (Sm d.lt) (λp a=>by rcases Sc.1 a with rfl|a;exact Qc _;exact Sm (d.above p a))
def Db (t:List UInt8):Pt:=.mk 8 [] t [] 0 false false
def F6 (d:Sb)(a k:Nat)(m:Nat):List Mem:=if a<k then [⟨m,Db ((d.data.toList.drop a).take (k-a)),none,none⟩]else []
theorem Ch.set1 {w:Sw}{C h k n:Nat}{d:Sb}{g:Value}{f:List Mem}(a:Ch w C 3 168 (Il d h k g) f):Ch (w.setCell (C 1) (.int .i64 (n:Nat))) C 3 168 (Il d n k g) f:=
 ⟨a.seg.Di _ a.q _,⟨Aj a.hdr.1 1 (.int .i64 (n:Nat)),by show 3+1<6;omega⟩,a.nodup,a.q⟩
theorem Ch.set2 {w:Sw}{C f k n:Nat}{d:Sb}{h:Value}{g:List Mem}(a:Ch w C 3 168 (Il d f k h) g):Ch (w.setCell (C 2) (.int .i64 (n:Nat))) C 3 168 (Il d f n h) g:=
 ⟨a.seg.Di _ a.q _,⟨Aj a.hdr.1 2 (.int .i64 (n:Nat)),by show 3+1<6;omega⟩,a.nodup,a.q⟩
theorem DJ (C:Nat)(f:Sb)(a k n:Nat)(j:List Mem)(v:List Bj)(x:So)(y:Nat)(A:Nat->Prop)(w:Sw)(h:Cut C f a k j v x y A w)(L:k+n<=f.size):Calls prog 152 #[.pointer (some C),n] w λe o=>∃N,e=.returned (.tuple #[])/\w.heap.size<=N/\Cut C f (k+n) (k+n) (j++F6 f a k N) v x y A o/\Fr (C::Ad j) w o:=by
 have ae:=h.lt;have m:=h.cells;have ao:w.cell? C=some (.string f):=X m 0 _ rfl;have ap:w.cell? (C 1)=some (.int .i64 (a:Nat)):=X m 1 _ rfl;have aq:w.cell? (C 2)=some (.int .i64 (k:Nat)):=X m 2 _ rfl;have ar:=Av m;have ag:=h.fk;have ai:=h.kl;have ak:=h.small;have l:=V h;have ac:=V h.above;by_cases K:a<k
 ·have aj:(a:Int)<(k:Int):=Z;have af:(a:Int)<=(k:Int):=Z;have ah:(k:Int)<=(f.size:Int):=Z;have ab:(0:Int)<=(a:Int):=Z;have W:U (Value.string (f.extract a k)=.string (S.B ((f.data.toList.drop a).take (k-a)))):=V (by rw[<-Kr,S.El]);have H:=V (λ(P:Sw) (d:P.heap=w.heap)=>BF C 3 168 (Il f a k (.slice x v.length y)) j (Db ((f.data.toList.drop a).take (k-a))) none none P (l.q.ch.move (λg _=>by rw[d])));have M:Kc (Db ((f.data.toList.drop a).take (k-a))) none none=.agg #[(8:Int),(),.string (f.extract a k),.pointer none,.pointer none,O,false,false]:=by rw[W.q];rfl
  rw[M]at H;clear h m M;go_enter func152,ntmps152;go_wp2_with fail
  go_region
  go_wp2_with fail
  go_region_held3 (λo=>o.cell? C=some (.string f)/\o.cell? (C 1)=some (.int .i64 (a:Nat))/\o.cell? (C 2)=some (.int .i64 (k:Nat)))
   ((refine⟨?_,?_,?_⟩<;>assumption))
   ((go_at_call 196;refine(H.q w.drew.drew rfl).mono ?_;rintro e z⟨rfl,p,u,G⟩;have q:=p.hdr.1;have al:z.cell? C=some (.string f):=X q 0 _ rfl;have am:z.cell? (C 1)=some (.int .i64 (a:Nat)):=X q 1 _ rfl;have an:z.cell? (C 2)=some (.int .i64 (k:Nat)):=X q 2 _ rfl))
  have aa:=Av q;have R:=V (And.intro p (And.intro u G));clear p u G q;go_wp2;go_end0;obtain⟨p,u,G⟩:=R.q;have D:=(p.set2 (n:=k+n)).set1 (n:=k+n);have s:Fr (C::Ad j) w ((z.setCell (C 2) (.int .i64 ((k+n:Nat):Int))).setCell (C 1) (.int .i64 ((k+n:Nat):Int))):=((((Fr.refl _ w).drew.drew).trans u (λg d=>.inl d)).setCell _ (.inl Y) _).setCell _ (.inl Y) _;have F:F6 f a k ((w:Nat)+1)=[⟨(w:Nat)+1,Db ((f.data.toList.drop a).take (k-a)),none,none⟩]:=by unfold F6;rw[if_pos K]
  refine⟨(w:Nat)+1,rfl,Nat.le_succ _,?_,s⟩;rw[F];refine l.q.grow D s (λg d=>by simp[Ad]at d;omega) (λe t=>by simp at t;subst t;exact .nil) (λg d=>d) (λg d=>.inl d) ?_ (Qc _) L (λg d=>by simp at d;subst d;simp[Db,Pt.rs]);have E:=l.q.bytes;have:((f.data.toList.drop a).take (k-a)).length=k-a:=by rw[Ql,Qf,S.lda];omega
  simp only[Qs,List.map_nil,Wj,Db,Pt.text,this];simp[txt]at E ⊢;omega
 have T:a=k:=Z;subst T;clear h m;go_enter func152,ntmps152;go_wp2_with fail
 go_region
 go_wp2;go_end0;have D:=(l.q.ch.set2 (n:=a+n)).set1 (n:=a+n);have s:Fr (C::Ad j) w ((w.setCell (C 2) (.int .i64 ((a+n:Nat):Int))).setCell (C 1) (.int .i64 ((a+n:Nat):Int))).drew:=((((Fr.refl _ w)).setCell _ (.inl Y) _).setCell _ (.inl Y) _).drew;have F:F6 f a a w=[]:=by unfold F6;rw[if_neg K]
 refine⟨w,rfl,Qc _,?_,s⟩;rw[F];have Q:Ch ((w.setCell (C 2) (.int .i64 ((a+n:Nat):Int))).setCell (C 1) (.int .i64 ((a+n:Nat):Int))).drew C 3 168 (Il f (a+n) (a+n) (.slice x v.length y)) (j++[]):=by rw[Qbk];exact D.move (λg _=>rfl)
 refine l.q.grow (r:=[]) Q s (λg d=>by simp[Ad]at d) (λe t=>by simp at t) (λg d=>d) (λg d=>.inl d) ?_ (Qc _) L (λg d=>by simp at d);have E:=l.q.bytes;simp[txt]at E ⊢;omega
theorem Cut.more {C:Nat}{j:Sb}{l k:Nat}{m:List Mem}{o:List Bj}{p:So}{q:Nat}{A A':Nat->Prop}{w w':Sw}(f:Cut C j l k m o p q A w)(t:Below w w w')(r:∀d,A d->A' d)(s:∀d,A' d->A d\/(w.heap.size<=d/\d<w')):Cut C j l k m o p q A' w':=by
 have a:=f.below t;refine⟨a.ch,λe u=>(a.Ab e u).move r (λ_ _=>rfl),λd v=>?_,a.own,a.sep,a.above,a.inl,a.up,a.fk,a.kl,a.small,a.bytes,a.runs⟩;rcases s d v with h|h
 ·exact a.dead d h
 refine⟨h.2,λg=>?_,λe=>?_⟩
 ·rcases Sc.1 g with g|g
  ·have:=f.lt;omega
  have:=f.ch.mlt d g;omega
 have:=(f.own.lt _ e.symm).2;omega
theorem zac {C:Nat}{d:Sb}{a k:Nat}{h:List Mem}{j:List Bj}{l:So}{o:Nat}{A:Nat->Prop}{w:Sw}(f:Cut C d a k h j l o A w)(m:Nat):txt ((h++F6 d a k m).map Mem.p)<=k:=by
 have g:=f.bytes;have p:=f.fk;have q:=f.kl;rw[Qv,Rv];unfold F6;split
 ·have:((d.data.toList.drop a).take (k-a)).length=k-a:=by rw[Ql,Qf,S.lda];omega
  simp only[Qs,List.map_nil,Wj,Db,Pt.text,this];simp[txt]at g ⊢;omega
 simp[txt]at g ⊢;omega
theorem Uj {w w':Sw}{b:Nat}(d:w'.heap[b]?=w.heap[b]?)(a:Nat):w'.cell? (b a)=w.cell? (b a):=by simp only[World.cell?];rw[d]
theorem Vu (C:Nat)(h:Sb)(s k n:Nat)(l:List Mem)(x:List Bj)(y:So)(z:Nat)(A:Nat->Prop)(p:Pt)(v kl:So)(w:Sw)(D:Cut C h s k l x y z A w)(ak:k+n<=h.size)(bf:p.text.length<=n)(az:p.rs<=1000000)(aj:Ce w A v p.Ab):Calls prog 162 #[.pointer (some C),Kc p v kl,n] w λe j=>∃q ae,e=.returned (.pointer (some ⟨ae,0,none⟩))/\w.heap.size<=q/\w.heap.size<=ae/\Cut C h (k+n) (k+n) ((l++F6 h s k q)++[⟨ae,p,v,kl⟩]) x y z A j/\Fr (C::Ad l) w j:=by
 obtain⟨G,H,K,L,M,N,P,Q,ay⟩:∃G H K L M N P Q,Kc p v kl=.agg #[G,H,K,L,M,N,P,Q]:=⟨_,_,_,_,_,_,_,_,rfl⟩;have bc:=D.lt;obtain⟨r,T⟩:=Qzz (w.alloc (.cells #[G,H,K,L,M,N,P,Q] 177));have aw:r.heap[w.heap.size]?=some (.cells #[G,H,K,L,M,N,P,Q] 177 (0,0)):=by rw[T];exact Ak _ _
 have bb:r.heap.size=(w:Nat)+1:=by rw[T];simp
 have F:Cut C h s k l x y z A r:=D.below (by rw[T];exact Sr.alloc (Qc _) _);have R:Fr (C::Ad l) w r:=by rw[T];exact(Fr.refl _ w).alloc _
 have au:=V (DJ C h s k n l x y z A r F ak);have aa:=aj.move (λd a=>a) (λd a=>R.block d (D.dead d a).1 (D.dead d a).2.1);have av:=V (λa8=>zac F a8);have ar:=V (And.intro F (And.intro aa R));have af:=V (λ(g:Sw) (am:List Mem) (ab:Ch g C 3 168 (Il h (k+n) (k+n) (.slice y x.length z)) am)=>BF C 3 168 (Il h (k+n) (k+n) (.slice y x.length z)) am p v kl g ab);have al:w.heap.size∉C::Ad l:=λf=>by
  rcases Sc.1 f with f|f
  ·omega
  have:=D.ch.mlt _ f;omega
 clear D aj F aa R;rw[ay]at af ⊢;go_enter func162,ntmps162;go_wp2_with fail
 rw[<-T];apply au.m;rintro e g⟨q,rfl,bd,E,t⟩;have ax:w.heap.size∉C::Ad (l++F6 h s k q):=λf=>by
  rw[Dk]at f;rcases Sc.1 f with f|f
  ·omega
  rcases Qbh.1 f with f|f
  ·exact al (Qo _ f)
  unfold F6 at f;split at f<;>simp[Ad]at f;omega
 have bg:=t.size;have m:g.heap[w.heap.size]?=some (.cells #[G,H,K,L,M,N,P,Q] 177 (0,0)):=by rw[t.block _ Z al];exact aw
 have a0:=X m 0 _ rfl;have a1:=X m 1 _ rfl;have a2:=X m 2 _ rfl;have a3:=X m 3 _ rfl;have a4:=X m 4 _ rfl;have a5:=X m 5 _ rfl;have a6:=X m 6 _ rfl;have a7:=X m 7 _ rfl;have ap:=V (λan (a:an.heap=g.heap)=>af.q an (l++F6 h s k q) (E.ch.move (λd _=>by rw[a])));have ab:=V (And.intro E t);clear E t m;go_wp2_with fail
 go_region_held3 (λj=>j.cell? w=some G/\j.cell? (w 1)=some H/\j.cell? (w 2)=some K/\j.cell? (w 3)=some L/\j.cell? (w 4)=some M/\j.cell? (w 5)=some N/\j.cell? (w 6)=some P/\j.cell? (w 7)=some Q)
  ((refine⟨?_,?_,?_,?_,?_,?_,?_,?_⟩<;>assumption))
  ((go_at_call 196;refine(ap.q g.drew rfl).mono ?_;rintro e ba⟨rfl,W,u,ac⟩;have o:=λ(a9:Nat)=>Uj (u.block w (by show w.heap.size<g.heap.size;omega) ax) a9;have bi:=(o 0).trans a0;have bj:=(o 1).trans a1;have bk:=(o 2).trans a2;have bl:=(o 3).trans a3;have bm:=(o 4).trans a4;have bn:=(o 5).trans a5;have bo:=(o 6).trans a6;have bp:=(o 7).trans a7))
 have ao:=V (And.intro W (And.intro u ac));clear W u ac;go_wp2;go_ret;obtain⟨F,aa,R⟩:=ar.q;obtain⟨E,t⟩:=ab.q;obtain⟨W,u,ac⟩:=ao.q;have bh:g.drew.heap.size=g.heap.size:=rfl;have aq:=W;refine⟨q,(g:Nat)+1,rfl,Z,Z,?_,?_⟩
 ·refine E.grow aq (((Fr.refl _ g).drew).trans u (λd a=>.inl a)) (λd a=>by simp[Ad]at a;omega) (λe ai=>?_) (λd a=>a) (λd a=>.inl a) ?_ (Qc _) ak (λd a=>by simp at a;subst a;exact az)
  ·simp at ai;subst ai;exact aa.move (λd a=>a) (λd a=>by
    have ah:=E.dead d a;rw[u.block d ah.1 ah.2.1];have ag:=F.dead d a;exact t.block d ag.1 ag.2.1)
  have:=av.q q;simp only[Qs,List.map_nil,Wj];simp[txt]at this ⊢;omega
 refine R.trans (t.trans (((Fr.refl _ g).drew).trans u (λd a=>.inl a)) (λd a=>?_)) (λd a=>.inl a);rw[Dk]at a;rcases Sc.1 a with a|a
 ·exact .inl (by rw[a];exact Qx)
 rcases Qbh.1 a with a|a
 ·exact .inl (Qo _ a)
 unfold F6 at a;split at a<;>simp[Ad]at a;exact .inr Z
theorem S.LM (l:List UInt8)(i:Nat)(b:UInt8)(a:Lib.hasPrefix (l.drop i) [b]=true):i<l.length:=by
 by_cases d:i<l.length
 ·exact d
 rw[Qw Z]at a;simp[Lib.hasPrefix]at a
theorem S.zmd (l:List UInt8)(a:S.Eb l=true):(S.Gv l).length+2<=l.length:=by
 unfold S.Eb at a;rw[SE]at a;have d:=S.LM l _ _ a.2;have f:1<=S.Hf l:=by unfold S.Hf S.colon;omega
 unfold S.Gv;rw[Ql,Qf];omega
theorem S.zaf (l:List UInt8)(a:S.Gg l=true):(S.addrOf l).length+2<=l.length:=by
 unfold S.Gg at a;rw[SE]at a;have d:=S.LM l _ _ a.2;unfold S.addrOf;rw[Ql,Qf];omega
theorem S.Yp (b:UInt8)(l:List UInt8):S.cnt b l<=l.length:=S.Gf b l
theorem S.zb8 (l:List UInt8)(d:l≠[]):1<=S.same l/\S.same l<=l.length:=by
 cases l with
 |nil=>exact absurd rfl d
 |cons b a=>
  have f:=S.Gf b (b::a);refine⟨?_,?_⟩
  ·show 1<=S.cnt b (b::a);simp[S.cnt]
  exact f
