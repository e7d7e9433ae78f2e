import Derived.Test.YtlojgpkajkedeaaGreatDoorOW7
import Derived.WalkKit
import Derived.WalkSpells
import Derived.WalkLawsBesides
import Derived.WalkMore
import Derived.ScopeJumps
import Derived.Below
import Derived.RegionTactic
import Derived.Deep.DeepCutAuto
import Derived.Deep.RegionHeld3
import Derived.LaidEql
set_option maxHeartbeats 0
set_option maxRecDepth 100000
namespace Go.Proofs.YtlojgpkajkedeaaGreatDoor
open Go.RowKit Go.Proofs.Tryz
theorem U3 (c d:Nat)(v:Value)(w:Sw)(h:w.cell? (c d)=some v)(f:∃a,v=.pointer a):Calls prog 109 #[.pointer (some (c d))] w λe g=>e=.returned v/\w=g:=by
 obtain⟨a,rfl⟩:=f;go_enter func109,ntmps109;go_wp2;go_ret;exact⟨rfl,rfl⟩
theorem Oz (m:Nat)(v:Value)(w:Sw)(g:w.cell? (m 9)=some v)(d:∃a,v=.pointer a):Calls prog 110 #[.pointer (some m)] w λe f=>e=.returned v/\w=f:=by
 obtain⟨a,rfl⟩:=d;go_enter func110,ntmps110;go_wp2;go_ret;exact⟨rfl,rfl⟩
theorem znm (c a m:Nat)(w:Sw)(j:c≠m)(f:∃d,w.cell? (c a)=some d)(l:w.frozen? (c a)=false)(g:∃d,w.cell? (m 8)=some d)(o:w.frozen? (m 8)=false):Calls prog 230 #[.pointer (some (c a)),.pointer none,.pointer (some m)] w λe k=>e=.returned (.tuple #[])/\(w.setCell (c a) (.pointer (some m))).setCell (m 8) (.pointer none)=k:=by
 obtain⟨q,f⟩:=f;obtain⟨r,g⟩:=g;have p:m≠c:=λh=>j h.symm;go_enter func230,ntmps230;go_wp2;go_end0;exact⟨rfl,rfl⟩
theorem zhs (c a m:Nat)(w:Sw)(j:c≠m)(f:∃d,w.cell? (c (a+1))=some d)(l:w.frozen? (c (a+1))=false)(g:∃d,w.cell? (m 9)=some d)(o:w.frozen? (m 9)=false):Calls prog 230 #[.pointer (some (c a)),.pointer (some m),.pointer none] w λe k=>e=.returned (.tuple #[])/\(w.setCell (m 9) (.pointer none)).setCell (c (a+1)) (.pointer (some m))=k:=by
 obtain⟨q,f⟩:=f;obtain⟨r,g⟩:=g;have p:m≠c:=λh=>j h.symm;go_enter func230,ntmps230;go_wp2;go_end0;exact⟨rfl,rfl⟩
inductive Pt where
 |mk (kind:Int) (info text:List UInt8) (Ab:List Pt) (rs:Nat) (ro rc:Bool)
def Pt.kind:Pt->Int | .mk k _ _ _ _ _ _=>k
def Pt.info:Pt->List UInt8 | .mk _ i _ _ _ _ _=>i
def Pt.text:Pt->List UInt8 | .mk _ _ t _ _ _ _=>t
def Pt.Ab:Pt->List Pt | .mk _ _ _ k _ _ _=>k
def Pt.rs:Pt->Nat | .mk _ _ _ _ z _ _=>z
def Pt.ro:Pt->Bool | .mk _ _ _ _ _ o _=>o
def Pt.rc:Pt->Bool | .mk _ _ _ _ _ _ c=>c
def Pt.Au (p:Pt)(t:List UInt8):Pt:=.mk p.kind p.info t p.Ab p.rs p.ro p.rc
structure Mem where
 m:Nat
 p:Pt
 kf:Option Addr
 kl:Option Addr
abbrev Mem.ad (e:Mem):Addr:=⟨e.m,0,none⟩
def Jc (e:Mem)(a d:So):List Value:=[.int .i64 e.p.kind,.string (S.B e.p.info),.string (S.B e.p.text),.pointer e.kf,.pointer e.kl,.int .i64 (e.p.rs:Nat),.bool e.p.ro,.bool e.p.rc,.pointer a,.pointer d]
inductive Ce (w:Sw)(A:Nat->Prop):Option Addr->List Pt->Prop
 |nil:Ce w A none []
 |cons (e:Mem) (ah be:So) (r:List Pt) (ha:A e.m) (hb:w.heap[e.m]?=some (.cells (Jc e ah be).toArray 179 (0,0)))
   (hk:Ce w A e.kf e.p.Ab) (hr:Ce w A be r):Ce w A (some e.ad) (e.p::r)
theorem Ce.move {w w':Sw}{A A':Nat->Prop}{a:So}{ps:List Pt}(h:Ce w A a ps)(j:∀b,A b->A' b)(l:∀b,A b->w'.heap[b]?=w.heap[b]?):Ce w' A' a ps:=by
 induction h with
 |nil=>exact .nil
 |cons e f g p d k q r m o=>exact .cons e f g p (j _ d) (by rw[l _ d];exact k) m o
def hd (l:List Mem)(a:So):Option Addr:=match l with
 |[]=>a
 |e::_=>some e.ad
def A9:List Mem->Option Addr->Option Addr
 |[],ah=>ah
 |e::a,_=>A9 a (some e.ad)
def Seg (w:Sw):Option Addr->List Mem->Option Addr->Prop
 |_,[],_=>True
 |ah,e::r,be=>w.heap[e.m]?=some (.cells (Jc e ah (hd r be)).toArray 179 (0,0))/\Seg w (some e.ad) r be
theorem Mq (a f:List Mem)(d:So):hd (a++f) d=hd a (hd f d):=by cases a<;>rfl
theorem Le (d f:List Mem)(a:So):A9 (d++f) a=A9 f (A9 d a):=by
 induction d generalizing a with
 |nil=>rfl
 |cons e h g=>exact g _
theorem Eu (w:Sw)(d g:List Mem)(a f:So):Seg w a (d++g) f↔Seg w a d (hd g f)/\Seg w (A9 d a) g f:=by
 induction d generalizing a with
 |nil=>simp[Seg,A9]
 |cons e j h=>
  simp only[List.cons_append,Seg,A9,Mq,h];exact and_assoc.symm
theorem Seg.move {w w':Sw}{l:List Mem}{a d:So}(f:Seg w a l d)(g:∀e∈l,w'.heap[e.m]?=w.heap[e.m]?):Seg w' a l d:=by
 induction l generalizing a with
 |nil=>trivial
 |cons e m j=>exact⟨by rw[g e Y];exact f.1,j f.2 (λk h=>g k (by simp[h]))⟩
theorem Seg.get {w:Sw}{l:List Mem}{d h:So}(f:Seg w d l h)(e:Mem)(a:e∈l):∃g b,w.heap[e.m]?=some (.cells (Jc e g b).toArray 179 (0,0)):=by
 induction l generalizing d with
 |nil=>simp at a
 |cons m k j=>
  simp at a;rcases a with rfl|a
  ·exact⟨_,_,f.1⟩
  exact j f.2 a
theorem Seg.lt {w:Sw}{l:List Mem}{a d:So}(f:Seg w a l d)(e:Mem)(h:e∈l):e.m<w:=by
 obtain⟨j,b,g⟩:=f.get e h;exact(Qq.1 g).1
def Ad (l:List Mem):List Nat:=l.map Mem.m
theorem Seg.Di {w:Sw}{l:List Mem}{d f:So}(g:Seg w d l f)(a:Addr)(h:a.block∉Ad l)(k:Value):Seg (w.setCell a k) d l f:=
 g.move (λe j=>Below.heap_setCell _ _ _ _ (λm=>h (by rw[<-m];exact List.mem_map.2 ⟨e,j,rfl⟩)))
theorem Seg.Y2 {w:Sw}{l:List Mem}{e:Mem}{d g:So}(a:Seg w d (l++[e]) g)(h:e.m∉Ad l)(f:So):Seg (w.setCell (e.m 9) (.pointer f)) d (l++[e]) f:=by
 rw[Eu]at a ⊢;exact⟨a.1.Di _ h _,Aj a.2.1 9 _,trivial⟩
theorem Seg.Xg {w:Sw}{r:List Mem}{e:Mem}{g d:So}(f:Seg w g (e::r) d)(h:e.m∉Ad r)(a:So):Seg (w.setCell (e.m 8) (.pointer a)) a (e::r) d:=
 ⟨Aj f.1 8 _,f.2.Di _ h _⟩
theorem Seg.cells {w:Sw}{r:List Mem}{e:Mem}{a d:So}(f:Seg w a (e::r) d):w.heap[e.m]?=some (.cells (Jc e a (hd r d)).toArray 179 (0,0)):=f.1
theorem VI (m:Nat)(v:So)(w:Sw)(d:w.cell? (m 8)=some (.pointer v)):Calls prog 242 #[.pointer (some m)] w λe a=>e=.returned (.pointer v)/\w=a:=by
 go_enter func242,ntmps242;go_wp2;go_ret;exact⟨rfl,rfl⟩
theorem zbf (c k a m:Nat)(w:Sw)(j:a≠m)(f:∃d,w.cell? (a 9)=some d)(o:w.frozen? (a 9)=false)(g:∃d,w.cell? (m 8)=some d)(p:w.frozen? (m 8)=false):Calls prog 230 #[.pointer (some (c k)),.pointer (some a),.pointer (some m)] w λe l=>e=.returned (.tuple #[])/\(w.setCell (a 9) (.pointer (some m))).setCell (m 8) (.pointer (some a))=l:=by
 obtain⟨r,f⟩:=f;obtain⟨s,g⟩:=g;have q:m≠a:=λh=>j h.symm;go_enter func230,ntmps230;go_wp2;go_end0;exact⟨rfl,rfl⟩
theorem join_none (c a:Nat)(w:Sw)(f:∃d,w.cell? (c a)=some d)(j:w.frozen? (c a)=false)(g:∃d,w.cell? (c (a+1))=some d)(k:w.frozen? (c (a+1))=false):Calls prog 230 #[.pointer (some (c a)),.pointer none,.pointer none] w λe h=>e=.returned (.tuple #[])/\(w.setCell (c a) (.pointer none)).setCell (c (a+1)) (.pointer none)=h:=by
 obtain⟨l,f⟩:=f;obtain⟨m,g⟩:=g;go_enter func230,ntmps230;go_wp2;go_end0;exact⟨rfl,rfl⟩
structure Fr (L:List Nat)(w w':Sw):Prop where
 os:w'.os=w.os
 tape:w'.tape=w.tape
 output:w'.output=w.output
 size:w<=w'.heap.size
 block:∀k,k<w.heap.size->k∉L->w'.heap[k]?=w.heap[k]?
theorem Fr.refl (L:List Nat)(w:Sw):Fr L w w:=⟨rfl,rfl,rfl,Qc _,λ_ _ _=>rfl⟩
theorem Fr.trans {L g:List Nat}{a b c:Sw}(d:Fr L a b)(k:Fr g b c)(m:∀f∈g,f∈L\/a.heap.size<=f):Fr L a c:=
 ⟨k.os.trans d.os,k.tape.trans d.tape,k.output.trans d.output,Qj d.size k.size,λf l j=>by
  rw[k.block f (Qh l d.size) (λe=>by rcases m f e with h|h;exact j h;omega),d.block f l j]⟩
theorem Fr.mono {L g:List Nat}{a b:Sw}(d:Fr L a b)(j:∀f∈L,f∈g\/a.heap.size<=f):Fr g a b:=
 ⟨d.os,d.tape,d.output,d.size,λf l k=>d.block f l (λe=>by rcases j f e with h|h;exact k h;omega)⟩
theorem Fr.setCell {L:List Nat}{a w:Sw}(d:Fr L a w)(p:Addr)(h:p.block∈L\/a.heap.size<=p.block)(k:Value):Fr L a (w.setCell p k):=
 ⟨d.os,d.tape,d.output,by have:=d.size;simpa [World.setCell]using this,λl j g=>by
  rw[Below.heap_setCell _ _ _ _ (λe=>by rcases h with f|f;exact g (e▸f);omega),d.block l j g]⟩
theorem Fr.alloc {L:List Nat}{a w:Sw}(d:Fr L a w)(h:Obj):Fr L a (w.alloc h):=
 ⟨d.os,d.tape,d.output,by have:=d.size;simp;omega,λj f g=>by
  rw[Sqj _ _ _ (Qh f d.size),d.block j f g]⟩
theorem Fr.drew {L:List Nat}{a w:Sw}(d:Fr L a w):Fr L a w.drew:=⟨d.os,d.tape,d.output,d.size,d.block⟩
theorem Fr.Ra {L:List Nat}{w w':Sw}(a:Below w w w'):Fr L w w':=⟨a.os,a.tape,a.output,a.size,λf d _=>a.block f d⟩
theorem Fr.below {L:List Nat}{w w':Sw}{B:Nat}(a:Fr L w w')(g:B<=w)(f:∀d∈L,B<=d):Below B w w':=⟨a.os,a.tape,a.output,a.size,λd h=>a.block d Z (λe=>by have:=f d e;omega)⟩
def U2 (cs:List Value)(a:Nat)(d l:So):List Value:=(cs.set a (.pointer d)).set (a+1) (.pointer l)
def Gt (w:Sw)(c a T:Nat)(cs:List Value)(d l:So):Prop:=w.heap[c]?=some (.cells (U2 cs a d l).toArray T (0,0))/\a+1<cs.length
theorem Gt.first {w:Sw}{c a T:Nat}{cs:List Value}{g l:So}(f:Gt w c a T cs g l)(d:So):Gt (w.setCell (c a) (.pointer d)) c a T cs d l:=by
 refine⟨?_,f.2⟩;have:=Aj f.1 a (.pointer d);rw[this];congr 2;unfold U2;rw[List.set_comm _ _ Z,List.set_set]
theorem Gt.last {w:Sw}{c a T:Nat}{cs:List Value}{f l:So}(g:Gt w c a T cs f l)(d:So):Gt (w.setCell (c (a+1)) (.pointer d)) c a T cs f d:=by
 refine⟨?_,g.2⟩;have:=Aj g.1 (a+1) (.pointer d);rw[this];congr 2;unfold U2;rw[List.set_set]
theorem Gt.other {w:Sw}{c g T:Nat}{cs:List Value}{d l:So}(f:Gt w c g T cs d l)(a:Addr)(h:a.block≠c)(j:Value):Gt (w.setCell a j) c g T cs d l:=
 ⟨by rw[Below.heap_setCell _ _ _ _ (λe=>h e.symm)];exact f.1,f.2⟩
theorem Gt.Ro {w:Sw}{c a T:Nat}{cs:List Value}{d l:So}(f:Gt w c a T cs d l):w.cell? (c a)=some (.pointer d):=
 X f.1 a _ (by unfold U2;rw[List.getElem?_toArray,List.getElem?_set_ne Z,List.getElem?_set_self (by have:=f.2;omega)])
theorem Gt.cellL {w:Sw}{c a T:Nat}{cs:List Value}{f l:So}(d:Gt w c a T cs f l):w.cell? (c (a+1))=some (.pointer l):=
 X d.1 (a+1) _ (by unfold U2;rw[List.getElem?_toArray,List.getElem?_set_self (by rw[List.length_set];exact d.2)])
theorem Gt.free {w:Sw}{c f T:Nat}{cs:List Value}{a l:So}(d:Gt w c f T cs a l)(i:Nat):w.frozen? (c i)=false:=Av d.1 i
theorem Gt.move {w w':Sw}{c f T:Nat}{cs:List Value}{a l:So}(d:Gt w c f T cs a l)(g:w'.heap[c]?=w.heap[c]?):Gt w' c f T cs a l:=⟨by rw[g];exact d.1,d.2⟩
theorem J5 (l:List Mem)(e:Mem)(a:So):A9 (l++[e]) a=some e.ad:=by rw[Le];rfl
theorem Vl (l:List Mem)(a:l≠[]):∃d e,l=d++[e]:=⟨l.dropLast,l.getLast a,(List.dropLast_concat_getLast a).symm⟩
theorem Rp (c j T:Nat)(cs:List Value)(G l:So)(P d:List Mem)(t A N af:So)(w:Sw)(C:Seg w t P N)(v:Seg w af d A)(s:(Ad (P++d)).Nodup)(r:c∉Ad (P++d))(f:Gt w c j T cs G l)(aa:P=[]->t=none)(ab:d=[]->A=none):Calls prog 230 #[.pointer (some (c j)),.pointer (A9 P none),.pointer (hd d none)] w λe k=>e=.returned (.tuple #[])/\Seg k t (P++d) A/\Gt k c j T cs (if P=[]then hd d none else G) (if d=[]then A9 P none else l)/\Fr (c::Ad (P++d)) w k/\w.heap.size=k.heap.size:=by
 have y:∀(a b:Addr) (L M:Value),w.heap.size=((w.setCell a L).setCell b M).heap.size:=λa b L M=>by simp[World.setCell]
 by_cases F:P=[]
 ·subst F;cases d with
  |nil=>
   refine(join_none c j w ⟨_,f.Ro⟩ (f.free _) ⟨_,f.cellL⟩ (f.free _)).mono ?_;rintro e k⟨rfl,rfl⟩;exact⟨rfl,trivial,(f.first none).last none,((Fr.refl _ w).setCell _ (.inl Y) _).setCell _ (.inl Y) _,y _ _ _ _⟩
  |cons b g=>
   have x:c≠b.m:=λe=>r (by simp[Ad,e]);have D:b.m∉Ad g:=by have:=List.nodup_cons.1 (show (b.m::Ad g).Nodup from s);exact this.1
   have q:=v.cells;refine(znm c j b.m w x ⟨_,f.Ro⟩ (f.free _) ⟨_,X q 8 _ rfl⟩ (Av q _)).mono ?_;rintro e k⟨rfl,rfl⟩;have o:=v.Di (c j) (by simpa using r) (.pointer (some b.ad));rw[aa rfl];refine⟨rfl,o.Xg D none,((f.first _).other (b.m 8) (λe=>x e.symm) _),((Fr.refl _ w).setCell _ (.inl Y) _).setCell _ (.inl (by simp[Ad])) _,y _ _ _ _⟩
 obtain⟨m,a,rfl⟩:=Vl P F;have E:c≠a.m:=λe=>r (by simp[Ad,e]);have H:a.m∉Ad m:=by
  have h:(Ad m++(a.m::Ad d)).Nodup:=by simpa [Ad,List.append_assoc]using s
  have p:=Sqd.1 h;intro ac;exact p.2.2 a.m ac a.m Y rfl
 have u:=((Eu w m [a] t N).1 C).2.cells;rw[J5,if_neg F];cases d with
 |nil=>
  refine(zhs c j a.m w E ⟨_,f.cellL⟩ (f.free _) ⟨_,X u 9 _ rfl⟩ (Av u _)).mono ?_;rintro e k⟨rfl,rfl⟩;rw[ab rfl,Qbk];have o:=C.Y2 H none;refine⟨rfl,o.Di _ (by simpa using r) _,(f.other (a.m 9) (λe=>E e.symm) _).last _,((Fr.refl _ w).setCell _ (.inl (by simp[Ad])) _).setCell _ (.inl Y) _,y _ _ _ _⟩
 |cons b g=>
  have W:a.m≠b.m:=by
   have h:(Ad m++(a.m::b.m::Ad g)).Nodup:=by simpa [Ad,List.append_assoc]using s
   have p:=(Sqd.1 h).2.1;have:=(List.nodup_cons.1 p).1;intro e;exact this (by simp[e])
  have K:∀z∈Ad (m++[a]),z∉Ad (b::g):=by
   have h:(Ad (m++[a])++Ad (b::g)).Nodup:=by simpa [Ad,List.append_assoc]using s
   have p:=(Sqd.1 h).2.2;intro z Q R;exact p z Q z R rfl
  have D:b.m∉Ad g:=by
   have h:(Ad (m++[a])++Ad (b::g)).Nodup:=by simpa [Ad,List.append_assoc]using s
   exact(List.nodup_cons.1 (show (b.m::Ad g).Nodup from(Sqd.1 h).2.1)).1
  have x:c≠b.m:=λe=>r (by simp[Ad,e]);have q:=v.cells;refine(zbf c j a.m b.m w W ⟨_,X u 9 _ rfl⟩ (Av u _) ⟨_,X q 8 _ rfl⟩ (Av q _)).mono ?_;rintro e k⟨rfl,rfl⟩;have o:=(C.Y2 H (some b.ad)).Di (b.m 8) (λae=>K b.m ae (by simp[Ad])) (.pointer (some a.ad));have h:=(v.Di (a.m 9) (K a.m (by simp[Ad])) (.pointer (some b.ad))).Xg D (some a.ad);refine⟨rfl,(Eu _ _ _ _ _).2 ⟨o,?_⟩,((f.other (a.m 9) (λe=>E e.symm) _).other (b.m 8) (λe=>x e.symm) _),((Fr.refl _ w).setCell _ (.inl (by simp[Ad])) _).setCell _ (.inl (by simp[Ad])) _,y _ _ _ _⟩;rw[J5];exact h
structure Ch (w:Sw)(c o T:Nat)(cs:List Value)(l:List Mem):Prop where
 seg:Seg w none l none
 hdr:Gt w c o T cs (hd l none) (A9 l none)
 nodup:(Ad l).Nodup
 q:c∉Ad l
theorem Ch.lt {w:Sw}{c d T:Nat}{cs:List Value}{l:List Mem}(a:Ch w c d T cs l):c<w:=(Qq.1 a.hdr.1).1
theorem Ch.mlt {w:Sw}{c h T:Nat}{cs:List Value}{l:List Mem}(d:Ch w c h T cs l)(a:Nat)(g:a∈Ad l):a<w:=by
 obtain⟨e,f,rfl⟩:=List.mem_map.1 g;exact d.seg.lt e f
theorem Ch.move {w w':Sw}{c f T:Nat}{cs:List Value}{l:List Mem}(a:Ch w c f T cs l)(d:∀g∈c::Ad l,w'.heap[g]?=w.heap[g]?):Ch w' c f T cs l:=
 ⟨a.seg.move (λe h=>d e.m (by simp[Ad];exact .inr ⟨e,h,rfl⟩)),a.hdr.move (d c Y),a.nodup,a.q⟩
def Kc (p:Pt)(a kl:So):Value:=.agg #[p.kind,(S.B p.info),(S.B p.text),.pointer a,.pointer kl,p.rs,p.ro,p.rc]
theorem BF (c h T:Nat)(cs:List Value)(l:List Mem)(p:Pt)(o kl:So)(w:Sw)(d:Ch w c h T cs l):Calls prog 196 #[.pointer (some (c h)),Kc p o kl] w λe D=>
   e=.returned (.pointer (some (((w:Nat)+1) 0)))/\Ch D c h T cs (l++[⟨(w:Nat)+1,p,o,kl⟩])/\Fr (c::Ad l) w D/\(w:Nat)+2=D.heap.size:=by
 have am:=d.lt;obtain⟨e,t⟩:∃e:Mem,e=⟨(w:Nat)+1,p,o,kl⟩:=⟨_,rfl⟩;have j:e.m=(w:Nat)+1:=by rw[t]
 obtain⟨g,k⟩:=Qzz ((w.alloc (.cells #[p.kind,(S.B p.info),(S.B p.text),.pointer o,.pointer kl,p.rs,p.ro,p.rc] 177)).alloc (.cells #[p.kind,(S.B p.info),(S.B p.text),.pointer o,.pointer kl,p.rs,p.ro,p.rc,.pointer none,.pointer none] 179));have A:∀ae,(w.alloc ae).heap.size=(w:Nat)+1:=by intro ae;simp
 have aa:g.heap.size=(w:Nat)+2:=by rw[k];simp
 have L:Fr (c::Ad l) w g:=by rw[k];exact((Fr.refl _ w).alloc _).alloc _
 have H:∀a,a<w.heap.size->g.heap[a]?=w.heap[a]?:=by
  intro a f;rw[k,Sqj _ _ _ (by rw[A];omega),Sqj _ _ _ f]
 have z:=d.move (λa f=>H a (by simp at f;rcases f with rfl|f;exact am;exact d.mlt a f))
 have E:Seg g none [e] none:=⟨by rw[j,t,k,<-A];exact Ak _ _,trivial⟩;have P:∀a∈Ad l,a≠e.m:=λa f=>by have:=d.mlt a f;omega
 have x:(Ad (l++[e])).Nodup:=by
  have:Ad (l++[e])=Ad l++[e.m]:=by simp[Ad]
  rw[this,Sqd];exact⟨d.nodup,Y,λaf ak b G=>by simp at G;subst G;exact P af ak⟩
 have s:c∉Ad (l++[e]):=by
  have:Ad (l++[e])=Ad l++[e.m]:=by simp[Ad]
  rw[this,Qbh,not_or];exact⟨d.q,by simp;omega⟩
 have m:=V (Rp c h T cs _ _ l [e] none none none none g z.seg E x s z.hdr (λ_=>rfl) (λd=>by simp at d));have a1:=d.hdr.cellL;have az:¬c=w.heap.size:=Z;have a0:¬c=(w:Nat)+1:=Z;have K:hd [e] none=some (((w:Nat)+1) 0:Addr):=by show some (e.m:Addr)=_;rw[j]
 rw[K]at m;have av:=V k;have N:(if l=[]then (some (((w:Nat)+1) 0:Addr))else hd l none)=hd (l++[e]) none:=by
  cases l with
  |nil=>simp[hd,Mem.ad,j]
  |cons a a2=>rfl
 rw[N]at m;rw[if_neg (Y:¬([e]=[]))]at m;have r:=V (λ(q:Sw) (ag:Seg q none (l++[e]) none) (ah:Gt q c h T cs (hd (l++[e]) none) (A9 l none))=>Rp c h T cs _ _ (l++[e]) [] none none none none q ag trivial (by rw[Qbk];exact x) (by rw[Qbk];exact s) ah (λ_=>rfl) (λ_=>rfl));rw[J5]at r;have W:¬(l++[e]=[]):=Y;have F:e.ad=(((w:Nat)+1) 0:Addr):=by show (e.m:Addr)=_;rw[j]
 simp only[Qbk,if_neg W,F,if_pos]at r;have al:Ad (l++[e])=Ad l++[(w:Nat)+1]:=by simp[Ad,j]
 rw[al]at m r;have ao:=V t;have ar:=V x;have an:=V s;have ap:=V L;have au:=V aa;clear A aa L H z E P x s K N W j k t;unfold Kc;go_enter func196,ntmps196;go_wp2_with fail
 rw[<-av.q];apply m.m;rintro ax q⟨rfl,ab,Q,M,ac⟩;have aj:=V (r.q q ab Q);have aq:=V M;have aw:=V ac;clear ab Q M ac;go_wp2_with fail
 apply aj.m;rintro ay a3⟨rfl,y,v,u,C⟩;have ai:=V (And.intro y (And.intro v (And.intro u C)));clear y v u C;go_wp2;go_ret;obtain⟨y,v,u,C⟩:=ai.q;rw[<-ao.q];refine⟨rfl,⟨y,?_,ar.q,an.q⟩,?_,?_⟩;·rw[J5,F];exact v
 ·have R:∀a∈c::(Ad l++[(w:Nat)+1]),a∈c::Ad l\/w.heap.size<=a:=by
   intro a f;simp at f ⊢;rcases f with d|d|d
   ·exact .inl (.inl d)
   ·exact .inl (.inr d)
   exact .inr Z
  exact(ap.q.trans aq.q R).trans u R
 have:=au.q;have:=aw.q;omega
theorem Dk (l r:List Mem):Ad (l++r)=Ad l++Ad r:=by simp[Ad]
theorem zcf {P j:List Nat}{a e:Nat}(p:(P++a::j).Nodup)(l:∀g∈P++a::j,g≠e):(P++a::e::j).Nodup:=by
 have h:=Sqd.1 p;have o:=List.nodup_cons.1 h.2.1;rw[Sqd];refine⟨h.1,?_,?_⟩
 ·rw[List.nodup_cons,List.nodup_cons];refine⟨?_,?_,o.2⟩
  ·intro d;simp at d;rcases d with d|d
   ·exact l a Y d
   exact o.1 d
  intro d;exact l e (by simp[d]) rfl
 intro g m q f k;simp at f;rcases f with f|f|f
 ·exact h.2.2 g m a Y (k.trans f)
 ·exact l g (by simp[m]) (k.trans f)
 exact h.2.2 g m q (by simp[f]) k
theorem FW (c m T:Nat)(cs:List Value)(P d:List Mem)(a:Mem)(p:Pt)(v kl:So)(w:Sw)(g:Ch w c m T cs (P++a::d)):Calls prog 244 #[.pointer (some (c m)),.pointer (some a.m),Kc p v kl] w λe W=>
   e=.returned (.pointer (some (((w:Nat)+1) 0)))/\Ch W c m T cs (P++a :: ⟨(w:Nat)+1,p,v,kl⟩ :: d)/\Fr (c::Ad (P++a::d)) w W/\(w:Nat)+2=W.heap.size:=by
 have a1:=g.lt;have bk:a.m<w:=g.mlt a.m (by simp[Ad]);obtain⟨e,A⟩:∃e:Mem,e=⟨(w:Nat)+1,p,v,kl⟩:=⟨_,rfl⟩;have t:e.m=(w:Nat)+1:=by rw[A]
 obtain⟨k,q⟩:=Qzz ((w.alloc (.cells #[p.kind,(S.B p.info),(S.B p.text),.pointer v,.pointer kl,p.rs,p.ro,p.rc] 177)).alloc (.cells #[p.kind,(S.B p.info),(S.B p.text),.pointer v,.pointer kl,p.rs,p.ro,p.rc,.pointer none,.pointer none] 179));have N:∀aw,(w.alloc aw).heap.size=(w:Nat)+1:=by intro aw;simp
 have aq:k.heap.size=(w:Nat)+2:=by rw[q];simp
 have ak:Fr (c::Ad (P++a::d)) w k:=by rw[q];exact((Fr.refl _ w).alloc _).alloc _
 have ag:∀f,f<w.heap.size->k.heap[f]?=w.heap[f]?:=by
  intro f h;rw[q,Sqj _ _ _ (by rw[N];omega),Sqj _ _ _ h]
 have H:Ch k c m T cs (P++a::d):=g.move (λf h=>ag f (by rcases Sc.1 h with rfl|h;exact a1;exact g.mlt f h))
 have ac:Seg k none [e] none:=⟨by rw[t,A,q,<-N];exact Ak _ _,trivial⟩;have K:Ad (P++a::d)=Ad P++a.m::Ad d:=by simp[Ad]
 have z:Ad (P++a::e::d)=Ad P++a.m::e.m::Ad d:=by simp[Ad]
 have al:∀f∈Ad P++a.m::Ad d,f≠e.m:=λf h=>by have:=g.mlt f (by rw[K];exact h);omega
 have u:(Ad (P++a::e::d)).Nodup:=by rw[z];exact zcf (by rw[<-K];exact g.nodup) al
 have s:c∉Ad (P++a::e::d):=by
  have l:=g.q;rw[K]at l;rw[z];simp only[Qbh,List.mem_cons,not_or]at l ⊢;exact⟨l.1,l.2.1,Z,l.2.2⟩
 have ap:(Ad ([e]++d)).Nodup:=by
  have:=(Sqd.1 (show (Ad P++a.m::e.m::Ad d).Nodup by rw[<-z];exact u)).2.1;exact(List.nodup_cons.1 this).2
 have ah:c∉Ad ([e]++d):=by
  intro j;apply s;rw[z];simp[Ad]at j ⊢;rcases j with j|j
  ·exact .inr (.inr (.inl j))
  exact .inr (.inr (.inr j))
 have Q:P++a::d=(P++[a])++d:=Y;have F:=H.seg;rw[Q,Eu]at F;have ae:=V (Rp c m T cs _ _ [e] d none none none (A9 (P++[a]) none) k ac F.2 ap ah H.hdr (λg=>by simp at g) (λ_=>rfl));have ao:A9 [e] none=some (((w:Nat)+1) 0:Addr):=by show some (e.m:Addr)=_;rw[t]
 rw[ao,if_neg (Y:¬([e]=[]))]at ae;have bh:w.cell? (a.m 9)=some (.pointer (hd d none)):=by
  have am:=g.seg;rw[Q,Eu,Eu]at am;exact X am.1.2.cells 9 _ rfl
 have a0:=V F.1;have aj:∀f∈P++[a],f.m∉c::Ad ([e]++d):=by
  intro f h j;have au:f.m∈Ad (P++[a]):=List.mem_map.2 ⟨f,h,rfl⟩;rcases Sc.1 j with j|j
  ·apply s;rw[<-j,show P++a::e::d=(P++[a])++([e]++d) by simp,Dk];exact SH _ au
  have G:(Ad (P++[a])++Ad ([e]++d)).Nodup:=by rw[<-Dk];simpa using u
  exact(Sqd.1 G).2.2 f.m au f.m j rfl
 have y:=V (λ(o:Sw) (bg:So) (l:Seg o none (P++[a]) (hd d none)) (ax:Seg o none ([e]++d) none) (G:Gt o c m T cs (hd (P++a::d) none) bg)=>Rp c m T cs _ _ (P++[a]) ([e]++d) none none (hd d none) none o l ax (by simpa using u) (by simpa using s) G (λg=>by simp at g) (λg=>by simp at g));rw[J5]at y;have ai:hd ([e]++d) none=some (((w:Nat)+1) 0:Addr):=by show some (e.m:Addr)=_;rw[t]
 simp only[ai,if_neg (show ¬(P++[a]=[]) by simp),if_neg (show ¬([e]++d=[]) by simp)]at y;have a5:(P++[a])++([e]++d)=P++a::e::d:=Y;rw[a5]at y;have a4:=V A;have L:=V t;have bb:=V u;have a2:=V s;have a6:=V ak;have bc:=V aq;have a3:=V aj;have bd:=V q;have ba:U (∀f∈P++[a],f.m<k):=V (λf h=>by have:=g.mlt f.m (by rw[Q,Dk];exact SH _ (List.mem_map.2 ⟨f,h,rfl⟩));omega);clear N aq ak ag H ac al u s ai ao t q A F ap ah aj;have bi:¬a.m=w.heap.size:=Z;have bj:¬a.m=(w:Nat)+1:=Z;unfold Kc;go_enter func244,ntmps244;go_wp2_with fail
 rw[<-bd.q];apply ae.m;rintro aa o⟨rfl,ar,an,M,av⟩;have af:Seg o none (P++[a]) (hd d none):=a0.q.move (λf h=>M.block f.m (ba.q f h) (a3.q f h));have az:=V (y.q o _ af ar an);have a7:=V M;have bf:=V av;clear ar an M av af;go_wp2_with fail
 apply az.m;rintro ab bn⟨rfl,E,D,C,R⟩;have ay:=V (And.intro E (And.intro D (And.intro C R)));clear E D C R;go_wp2;go_ret;obtain⟨E,D,C,R⟩:=ay.q;rw[<-a4.q];refine⟨rfl,⟨E,?_,bb.q,a2.q⟩,?_,?_⟩
 ·have aa:hd (P++a::e::d) none=hd (P++a::d) none:=by rw[Mq,Mq];rfl
  have ab:A9 (P++a::e::d) none=if d=[]then some (((w:Nat)+1) 0:Addr)else A9 (P++a::d) none:=by
   rw[Le,Le];cases d with
   |nil=>simp[A9,Mem.ad,L.q]
   |cons bl bm=>simp[A9]
  rw[aa,ab];exact D
 ·have a8:∀f∈c::Ad ([e]++d),f∈c::Ad (P++a::d)\/w.heap.size<=f:=by
   intro f h;have:=L.q;simp[Ad]at h ⊢;rcases h with g|g|⟨x,g,r⟩
   ·exact .inl (.inl g)
   ·exact .inr Z
   exact .inl (.inr (.inr (.inr ⟨x,g,r⟩)))
  have a9:∀f∈c::Ad (P++a::e::d),f∈c::Ad (P++a::d)\/w.heap.size<=f:=by
   intro f h;have:=L.q;simp[Ad]at h ⊢;rcases h with g|⟨x,g,r⟩|g|g|⟨x,g,r⟩
   ·exact .inl (.inl g)
   ·exact .inl (.inr (.inl ⟨x,g,r⟩))
   ·exact .inl (.inr (.inr (.inl g)))
   ·exact .inr Z
   exact .inl (.inr (.inr (.inr ⟨x,g,r⟩)))
  exact(a6.q.trans a7.q a8).trans C a9
 have:=bc.q;have:=bf.q;omega
theorem Jf (P d:List Mem)(a:Mem):Ad (P++a::d)=Ad P++a.m::Ad d:=by simp[Ad]
theorem UR {P g:List Nat}{a:Nat}(j:(P++a::g).Nodup):(P++g).Nodup/\a∉P++g:=by
 have f:=Sqd.1 j;have h:=List.nodup_cons.1 f.2.1;refine⟨Sqd.2 ⟨f.1,h.2,λm k o l=>f.2.2 m k o (by simp[l])⟩,?_⟩;intro d;rcases Qbh.1 d with d|d
 ·exact f.2.2 a d a Y rfl
 exact h.1 d
theorem zh2 (c v T:Nat)(cs:List Value)(P d:List Mem)(a:Mem)(w:Sw)(f:Ch w c v T cs (P++a::d)):Calls prog 209 #[.pointer (some (c v)),.pointer (some a.m)] w λe h=>
   e=.returned (.tuple #[])/\Ch h c v T cs (P++d)/\Fr (c::Ad (P++a::d)) w h/\w.heap.size=h.heap.size:=by
 have l:=f.seg;rw[Eu]at l;have o:=l.2.cells;have ac:=X o 8 _ rfl;have ae:=X o 9 _ rfl;have s:=UR (by rw[<-Jf];exact f.nodup);have q:c∉Ad (P++d)/\c≠a.m:=by
  have j:=f.q;rw[Jf]at j;rw[Dk];simp only[Qbh,List.mem_cons,not_or]at j ⊢;exact⟨⟨j.1,j.2.2⟩,j.2.1⟩
 have M:=f.mlt a.m (by simp[Ad]);have D:a.m∉c::Ad (P++d):=by
  rw[Sc,not_or];exact⟨λe=>q.2 e.symm,by rw[Dk];exact s.2⟩
 have C:=V (λ(K:Sw) (g:K.heap=w.heap)=>Rp c v T cs (hd (P++a::d) none) (A9 (P++a::d) none) P d none none (hd (a::d) none) (some a.ad) K (l.1.move (λe _=>by rw[g])) (l.2.2.move (λe _=>by rw[g])) (by rw[Dk];exact s.1) q.1 (f.hdr.move (by rw[g])) (λ_=>rfl) (λ_=>rfl));have y:(if P=[]then hd d none else hd (P++a::d) none)=hd (P++d) none:=by
  cases P with
  |nil=>rfl
  |cons m ab=>rfl
 have A:(if d=[]then A9 P none else A9 (P++a::d) none)=A9 (P++d) none:=by
  cases d with
  |nil=>simp
  |cons m ab=>rw[if_neg Y,Le,Le];rfl
 simp only[y,A]at C;have L:=V o;have E:=V D;have z:=V q;have W:=V s;have aa:=V M;clear y A l o D q s;go_enter func209,ntmps209;go_wp2_with fail
 go_region_held3 (λh=>h.cell? (a.m 8)=some (.pointer (A9 P none))/\h.cell? (a.m 9)=some (.pointer (hd d none)))
  ((refine⟨?_,?_⟩<;>assumption))
  ((go_at_call 230;refine(C.q w.drew rfl).mono ?_;rintro y x⟨rfl,t,r,k,u⟩;have p:=(k.block a.m aa.q E.q).trans L.q;have ag:=X p 8 _ rfl;have ah:=X p 9 _ rfl))
 have af:=Av p;have N:=V (And.intro t (And.intro r (And.intro k u)));clear t r k u p;go_wp2;go_end0;obtain⟨t,r,k,u⟩:=N.q;have F:a.m∉Ad (P++d):=λR=>E.q (Qo _ R);refine⟨rfl,⟨?_,?_,by rw[Dk];exact W.q.1,z.q.1⟩,?_,?_⟩;·exact(t.Di _ F _).Di _ F _
 ·exact(r.other (a.m 8) (λe=>z.q.2 e.symm) _).other (a.m 9) (λe=>z.q.2 e.symm) _
 ·have Q:∀m∈c::Ad (P++d),m∈c::Ad (P++a::d)\/w.heap.size<=m:=by
   intro m g;rw[Jf];rw[Dk]at g;simp at g ⊢;rcases g with f|f|f
   ·exact .inl (.inl f)
   ·exact .inl (.inr (.inl f))
   exact .inl (.inr (.inr (.inr f)))
  exact((((Fr.refl _ w).drew).trans k Q).setCell _ (.inl (by simp[Ad])) _).setCell _ (.inl (by simp[Ad])) _
 have e:∀(a b:Addr) (G H:Value),((x.setCell a G).setCell b H).heap.size=x.heap.size:=λa b G H=>by simp[World.setCell]
 rw[e];exact u
theorem Tryz.JG:(prog.info? 179).map (λi=>i.size)=some 10:=Sk
theorem zne (a:Addr)(w:Sw):(binOp .eql 133 (.pointer (some a)) (.pointer (some a))).run prog w=.ok (.bool true) w:=by
 obtain⟨h,g,_⟩:=Option.map_eq_some_iff.1 Tryz.JG;have f:∀d:Nat,(Op.equalIn (d+1) 133 (.pointer (some a)) (.pointer (some a))).run prog w=.ok true w:=λd=>by
  simp[Op.equalIn,run_underlying underlying133,sizeOf,typeInfo,g,run_sameAddr_same]
 simp only[binOp];simp[Op.equal,Op.maxDepth,f 9999]
theorem ze1 (a b:Addr)(w:Sw)(m:a≠b){f g:Array Value}{ta tb:TypeId}(j:w.heap[a.block]?=some (.cells f ta (0,0)))(k:w.heap[b.block]?=some (.cells g tb (0,0))):(binOp .eql 133 (.pointer (some a)) (.pointer (some b))).run prog w=.ok (.bool false) w:=by
 obtain⟨p,l,o⟩:=Option.map_eq_some_iff.1 Tryz.JG;have h:∀d:Nat,(Op.equalIn (d+1) 133 (.pointer (some a)) (.pointer (some b))).run prog w=.ok false w:=λd=>by
  simp[Op.equalIn,run_underlying underlying133,sizeOf,typeInfo,l,o,run_sameAddr_other w m j k]
 simp only[binOp];simp[Op.equal,Op.maxDepth,h 9999]
theorem MV (c g:Nat)(a:Mem)(d:List Mem)(w:Sw)(f:w.cell? (a.m 9)=some (.pointer (hd d none)))(l:a.m<w):Calls prog 238 #[.pointer (some (c g)),.pointer (some a.m),.pointer (hd d none)] w λe h=>e=.returned (.agg #[.pointer none,.pointer none])/\Below w w h:=by
 have k:¬a.m=w.heap.size:=Z;cases d with
 |nil=>
  simp only[hd]at f ⊢;go_enter func238,ntmps238;go_wp2;exact Sqk (v:=.agg #[.pointer none,.pointer none]) (by simp[results,results238,go_sem]) rfl ⟨rfl,Sr.alloc (Qc _) _⟩
 |cons b o=>
  simp only[hd,Mem.ad]at f ⊢;have m:=λj=>zne b.m j;go_enter func238,ntmps238;go_wp2;exact Sqk (v:=.agg #[.pointer none,.pointer none]) (by simp[results,results238,go_sem]) rfl ⟨rfl,Sr.alloc (Qc _) _⟩
theorem zhu (c x T:Nat)(cs:List Value)(P f:List Mem)(a d:Mem)(w:Sw)(m:Ch w c x T cs (P++a::(d::f))):Calls prog 238 #[.pointer (some (c x)),.pointer (some a.m),.pointer none] w λe af=>e=.returned (.agg #[.pointer (some d.m),.pointer (A9 (d::f) none)])/\Ch af c x T cs (P++[a])/\Seg af none (d::f) none/\Fr (c::Ad (P++a::(d::f))) w af:=by
 have bb:=m.lt;have ab:=m.seg;rw[Eu]at ab;have ai:=ab.2.cells;have bu:w.cell? (a.m 9)=some (.pointer (some d.m)):=X ai 9 _ rfl;obtain⟨a3,j,y⟩:=Vl (d::f) Y;have L:A9 (d::f) none=some (j.m:Addr):=by rw[y];exact J5 _ _ _
 have au:A9 (P++a::d::f) none=some (j.m:Addr):=by rw[Le];show A9 (d::f) (some a.ad)=_;rw[y];exact J5 _ _ _
 have bv:w.cell? (c (x+1))=some (.pointer (some j.m)):=by rw[<-au];exact m.hdr.cellL
 have b1:a.m<w:=m.mlt a.m (by simp[Ad]);have bz:¬a.m=w.heap.size:=Z;have b0:¬a.m=(w:Nat)+1:=Z;have bc:¬c=w.heap.size:=Z;have b2:¬c=(w:Nat)+1:=Z;obtain⟨l,t⟩:=Qzz (((w.alloc (.cells #[.pointer none,.pointer none] 135)).alloc (.cells #[.pointer (some d.m),.pointer (some j.m)] 135)).drew);have aa:∀az,(w.alloc az).heap.size=(w:Nat)+1:=by intro az;simp
 have av:l.heap.size=(w:Nat)+2:=by rw[t];simp
 have an:∀h,h<w.heap.size->l.heap[h]?=w.heap[h]?:=by
  intro h k;rw[t];show ((w.alloc _).alloc _).heap[h]?=_;rw[Sqj _ _ _ (by rw[aa];omega),Sqj _ _ _ k]
 have a8:U (l.heap[w.heap.size]?=some (.cells #[.pointer none,.pointer none] 135 (0,0))):=V (by rw[t];show ((w.alloc _).alloc _).heap[w.heap.size]?=_;rw[Sqj _ _ _ Y];exact Ak _ _);have a9:U (l.heap[(w:Nat)+1]?=some (.cells #[.pointer (some d.m),.pointer (some j.m)] 135 (0,0))):=V (by rw[t,<-aa (.cells #[.pointer none,.pointer none] 135)];exact Ak _ _);have s:∀h∈Ad (P++a::d::f),h<w:=m.mlt;have H:Ch l c x T cs (P++a::d::f):=m.move (λh k=>an h (by rcases Sc.1 k with rfl|k;exact bb;exact s h k))
 have ax:P++a::d::f=(P++[a])++(d::f):=Y;have o:Ad (P++a::d::f)=Ad (P++[a])++Ad (d::f):=by rw[ax,Dk]
 have Q:=m.nodup;rw[o]at Q;have E:=Sqd.1 Q;have A:=m.q;rw[o,Qbh,not_or]at A;have G:=H.seg;rw[ax,Eu]at G;have a6:=V G.2;have aj:=V (Rp c x T cs _ _ (P++[a]) [] none none (hd (d::f) none) none l G.1 trivial (by rw[Qbk];exact E.1) (by rw[Qbk];exact A.1) H.hdr (λ_=>rfl) (λ_=>rfl));rw[J5,Qbk,if_neg (Y:¬(P++[a]=[])),if_pos rfl]at aj;have a7:U ((w:Nat)+1∉c::Ad (P++[a])):=V (λg=>by
  rcases Sc.1 g with g|g
  ·omega
  have:=s _ (by rw[o];exact SH _ g);omega)
 have am:U (w.heap.size∉c::Ad (P++[a])):=V (λg=>by
  rcases Sc.1 g with g|g
  ·omega
  have:=s _ (by rw[o];exact SH _ g);omega)
 have a4:U (∀e∈d::f,e.m<l):=V (λe p=>by have:=s e.m (by rw[o];exact SV _ (List.mem_map.2 ⟨e,p,rfl⟩));omega);have a5:U (∀e∈d::f,e.m∉c::Ad (P++[a])):=V (λe p g=>by
  have aq:e.m∈Ad (d::f):=List.mem_map.2 ⟨e,p,rfl⟩;rcases Sc.1 g with g|g
  ·exact A.2 (g▸aq)
  exact E.2.2 e.m g e.m aq rfl)
 have bf:U (hd (P++a::d::f) none=hd (P++[a]) none):=V (by rw[Mq,Mq];rfl);have z:=V y;have aw:=V av;have bl:=V t;have R:=V E;have ap:=V A;have bd:U (Fr (c::Ad (P++a::d::f)) w l):=V (by rw[t];exact(((Fr.refl _ w).alloc _).alloc _).drew);have b8:j.m<w:=s j.m (by rw[o];exact SV _ (List.mem_map.2 ⟨j,by rw[y];simp,rfl⟩));have b6:d.m<w:=s d.m (by simp[Ad]);have bm:¬j.m=w.heap.size:=Z;have b7:¬j.m=(w:Nat)+1:=Z;have bh:¬d.m=w.heap.size:=Z;have b5:¬d.m=(w:Nat)+1:=Z;have b4:=V L;rw[L];clear aa av an s H Q E A G t y L au ab ai;go_enter func238,ntmps238;go_wp2_with fail
 go_region
 all_goals go_wp2_with fail
 rw[<-bl.q];apply aj.m;rintro bw a2⟨rfl,F,D,r,ay⟩;have K:=(r.block ((w:Nat)+1) (by have:=aw.q;omega) a7.q).trans a9.q;have q:=(r.block w (by have:=aw.q;omega) am.q).trans a8.q;have cd:=X K 0 _ rfl;have ce:=X K 1 _ rfl;have u:=a6.q.move (λe p=>r.block e.m (a4.q e p) (a5.q e p));obtain⟨bo,cb,M⟩:=u.get d Y;obtain⟨ci,bt,ac⟩:=u.get j (by rw[z.q];simp);have ca:a2.cell? (d.m 8)=some (.pointer bo):=X M 8 _ rfl;have cc:=Av M;have ch:a2.cell? (j.m 9)=some (.pointer bt):=X ac 9 _ rfl;have cj:=Av ac;have cf:=X q 0 _ rfl;have a0:=X q 1 _ rfl;have cg:=Av q;have ba:=V (And.intro F (And.intro D (And.intro r (And.intro u (And.intro q ay)))));clear F D r ay K q u M ac;go_wp2_with fail
 go_region
 go_wp2;have bj:¬w.heap.size=d.m:=λe=>bh e.symm;have bk:¬w.heap.size=j.m:=λe=>bm e.symm;obtain⟨F,D,r,u,q,b9⟩:=ba.q;have W:(Ad (d::f)).Nodup:=R.q.2.1;have bi:d.m∉Ad f:=(List.nodup_cons.1 (show (d.m::Ad f).Nodup from W)).1;have bn:j.m∉Ad a3:=by
  rw[z.q,Dk]at W;intro g;exact(Sqd.1 W).2.2 j.m g j.m (by simp[Ad]) rfl
 have ag:=u.Xg bi none;rw[z.q]at ag;have ah:=ag.Y2 bn none;rw[<-z.q]at ah;have ae:j.m∈Ad (d::f):=by rw[z.q];simp[Ad]
 have N:d.m∈Ad (d::f):=by simp[Ad]
 have C:∀h∈Ad (d::f),h∉Ad (P++[a])/\h≠c:=λh k=>⟨λg=>R.q.2.2 h g h k rfl,λe=>ap.q.2 (e▸k)⟩;have ak:w.heap.size∉Ad (d::f):=λg=>by
  obtain⟨e,p,b3⟩:=List.mem_map.1 g;have bx:=m.mlt e.m (by rw[o];exact SV _ (List.mem_map.2 ⟨e,p,rfl⟩));omega
 have al:w.heap.size∉Ad (P++[a]):=λg=>am.q (Qo _ g);have ao:c≠w.heap.size:=bc;have bp:=((F.Di (d.m 8) (C _ N).1 (.pointer none)).Di (j.m 9) (C _ ae).1 (.pointer none));have bq:=((D.other (d.m 8) (C _ N).2 (.pointer none)).other (j.m 9) (C _ ae).2 (.pointer none));have a0:=Di (Di q (d.m 8) bj (.pointer none)) (j.m 9) bk (.pointer none);have a1:=Aj (Aj (cs:=[.pointer none,.pointer none]) a0 0 (.pointer (some d.m))) 1 (.pointer (some j.m));have br:=X a1 0 _ rfl;have bs:=X a1 1 _ rfl;refine Sqk (v:=.agg #[.pointer (some d.m),.pointer (some j.m)]) (by simp[results,results238,go_sem,br,bs]) rfl ⟨rfl,⟨?_,?_,R.q.1,ap.q.1⟩,?_,?_⟩;·exact((bp.Di w al _).Di (w 1) al _).move (λ_ _=>rfl)
 ·rw[J5,<-bf.q];exact(bq.other w (λe=>ao e.symm) _).other (w 1) (λe=>ao e.symm) _
 ·exact((ah.Di w ak _).Di (w 1) ak _).move (λ_ _=>rfl)
 have bg:∀h∈c::Ad (P++[a]),h∈c::Ad (P++a::d::f)\/w.heap.size<=h:=by
  intro h k;rw[o];simp only[List.mem_cons,Qbh]at k ⊢;rcases k with k|k
  ·exact .inl (.inl k)
  exact .inl (.inr (.inl k))
 have ar:∀h∈Ad (d::f),h∈c::Ad (P++a::d::f):=λh k=>Qo _ (by rw[o];exact SV _ k);exact(((((bd.q.trans r bg).setCell (d.m 8) (.inl (ar _ N)) _).setCell (j.m 9) (.inl (ar _ ae)) _).setCell w (.inr (Qc _)) _).setCell (w 1) (.inr (Qc _)) _).drew
