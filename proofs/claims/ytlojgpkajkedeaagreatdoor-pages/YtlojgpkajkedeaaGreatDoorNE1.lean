import Derived.Test.YtlojgpkajkedeaaGreatDoorNW7
import Derived.WalkKit
import Derived.WalkSpells
import Derived.WalkLawsBesides
import Derived.WalkMore
import Derived.ScopeJumps
import Derived.Below
import Derived.RegionTactic
import Derived.Deep.DeepCutAuto
import Derived.Deep.RegionHeld3
import Derived.LaidEql
set_option maxHeartbeats 16000000
set_option maxRecDepth 100000
namespace Go.Proofs.YtlojgpkajkedeaaGreatDoor
open Go.RowKit Go.Proofs.Tryz
theorem zir (c o:Nat)(v:Value)(w:World)(h0:w.cell? ⟨c,o,none⟩=some v)(hv:∃a,v=.pointer a):Calls prog 109 #[.pointer (some ⟨c,o,none⟩)] w λe w'=>e=.returned v/\w=w':=by
 obtain⟨a,rfl⟩:=hv;go_enter func109,ntmps109;go_wp2;go_ret;exact⟨rfl,rfl⟩
theorem zdq (m:Nat)(v:Value)(w:World)(h0:w.cell? ⟨m,9,none⟩=some v)(hv:∃a,v=.pointer a):Calls prog 110 #[.pointer (some ⟨m,0,none⟩)] w λe w'=>e=.returned v/\w=w':=by
 obtain⟨a,rfl⟩:=hv;go_enter func110,ntmps110;go_wp2;go_ret;exact⟨rfl,rfl⟩
theorem zvx (c o m:Nat)(w:World)(hne:c≠m)(h0:∃v,w.cell? ⟨c,o,none⟩=some v)(f0:w.frozen? ⟨c,o,none⟩=false)(h1:∃v,w.cell? ⟨m,8,none⟩=some v)(f1:w.frozen? ⟨m,8,none⟩=false):Calls prog 230 #[.pointer (some ⟨c,o,none⟩),.pointer none,.pointer (some ⟨m,0,none⟩)] w λe w'=>e=.returned (.tuple #[])/\(w.setCell ⟨c,o,none⟩ (.pointer (some ⟨m,0,none⟩))).setCell ⟨m,8,none⟩ (.pointer none)=w':=by
 obtain⟨v0,h0⟩:=h0;obtain⟨v1,h1⟩:=h1;have hne':m≠c:=λh=>hne h.symm;go_enter func230,ntmps230;go_wp2;go_end0;exact⟨rfl,rfl⟩
theorem zze (c o m:Nat)(w:World)(hne:c≠m)(h0:∃v,w.cell? ⟨c,o+1,none⟩=some v)(f0:w.frozen? ⟨c,o+1,none⟩=false)(h1:∃v,w.cell? ⟨m,9,none⟩=some v)(f1:w.frozen? ⟨m,9,none⟩=false):Calls prog 230 #[.pointer (some ⟨c,o,none⟩),.pointer (some ⟨m,0,none⟩),.pointer none] w λe w'=>e=.returned (.tuple #[])/\(w.setCell ⟨m,9,none⟩ (.pointer none)).setCell ⟨c,o+1,none⟩ (.pointer (some ⟨m,0,none⟩))=w':=by
 obtain⟨v0,h0⟩:=h0;obtain⟨v1,h1⟩:=h1;have hne':m≠c:=λh=>hne h.symm;go_enter func230,ntmps230;go_wp2;go_end0;exact⟨rfl,rfl⟩
inductive Pt where
 | mk (kind:Int) (info text:List UInt8) (kids:List Pt) (rs:Nat) (ro rc:Bool)
def Pt.kind:Pt->Int | .mk k _ _ _ _ _ _=>k
def Pt.info:Pt->List UInt8 | .mk _ i _ _ _ _ _=>i
def Pt.text:Pt->List UInt8 | .mk _ _ t _ _ _ _=>t
def Pt.kids:Pt->List Pt | .mk _ _ _ k _ _ _=>k
def Pt.rs:Pt->Nat | .mk _ _ _ _ z _ _=>z
def Pt.ro:Pt->Bool | .mk _ _ _ _ _ o _=>o
def Pt.rc:Pt->Bool | .mk _ _ _ _ _ _ c=>c
def Pt.za4 (p:Pt)(t:List UInt8):Pt:=.mk p.kind p.info t p.kids p.rs p.ro p.rc
structure Mem where
 m:Nat
 p:Pt
 kf:Option Addr
 kl:Option Addr
abbrev Mem.ad (e:Mem):Addr:=⟨e.m,0,none⟩
def zcz (e:Mem)(ah be:Option Addr):List Value:=[.int .i64 e.p.kind,.string (S.B e.p.info),.string (S.B e.p.text),.pointer e.kf,.pointer e.kl,.int .i64 (e.p.rs:Nat),.bool e.p.ro,.bool e.p.rc,.pointer ah,.pointer be]
inductive KRep (w:World)(A:Nat->Prop):Option Addr->List Pt->Prop
 | nil:KRep w A none []
 | cons (e:Mem) (ah be:Option Addr) (r:List Pt) (ha:A e.m) (hb:w.heap[e.m]?=some (.cells (zcz e ah be).toArray 179 (0,0)))
   (hk:KRep w A e.kf e.p.kids) (hr:KRep w A be r):KRep w A (some e.ad) (e.p::r)
theorem KRep.move {w w':World}{A A':Nat->Prop}{a:Option Addr}{ps:List Pt}(h:KRep w A a ps)(hA:∀b,A b->A' b)(hw:∀b,A b->w'.heap[b]?=w.heap[b]?):KRep w' A' a ps:=by
 induction h with
 | nil=>exact .nil
 | cons e ah be r ha hb hk hr ih1 ih2=>exact .cons e ah be r (hA _ ha) (by rw[hw _ ha];exact hb) ih1 ih2
def hd (l:List Mem)(be:Option Addr):Option Addr:=match l with
 | []=>be
 | e::_=>some e.ad
def lst:List Mem->Option Addr->Option Addr
 | [],ah=>ah
 | e::r,_=>lst r (some e.ad)
def Seg (w:World):Option Addr->List Mem->Option Addr->Prop
 | _,[],_=>True
 | ah,e::r,be=>w.heap[e.m]?=some (.cells (zcz e ah (hd r be)).toArray 179 (0,0))/\Seg w (some e.ad) r be
theorem zd8 (l1 l2:List Mem)(be:Option Addr):hd (l1++l2) be=hd l1 (hd l2 be):=by cases l1<;>rfl
theorem zc6 (l1 l2:List Mem)(ah:Option Addr):lst (l1++l2) ah=lst l2 (lst l1 ah):=by
 induction l1 generalizing ah with
 | nil=>rfl
 | cons e r ih=>exact ih _
theorem seg_append (w:World)(l1 l2:List Mem)(ah be:Option Addr):Seg w ah (l1++l2) be↔Seg w ah l1 (hd l2 be)/\Seg w (lst l1 ah) l2 be:=by
 induction l1 generalizing ah with
 | nil=>simp[Seg,lst]
 | cons e r ih=>
  simp only[List.cons_append,Seg,lst,zd8,ih];exact and_assoc.symm
theorem Seg.move {w w':World}{l:List Mem}{ah be:Option Addr}(h:Seg w ah l be)(hw:∀e∈l,w'.heap[e.m]?=w.heap[e.m]?):Seg w' ah l be:=by
 induction l generalizing ah with
 | nil=>trivial
 | cons e r ih=>exact⟨by rw[hw e (by simp)];exact h.1,ih h.2 (λx hx=>hw x (by simp[hx]))⟩
theorem Seg.get {w:World}{l:List Mem}{ah be:Option Addr}(h:Seg w ah l be)(e:Mem)(he:e∈l):∃a b,w.heap[e.m]?=some (.cells (zcz e a b).toArray 179 (0,0)):=by
 induction l generalizing ah with
 | nil=>simp at he
 | cons x r ih=>
  simp at he;rcases he with rfl|he
  ·exact⟨_,_,h.1⟩
  ·exact ih h.2 he
theorem Seg.lt {w:World}{l:List Mem}{ah be:Option Addr}(h:Seg w ah l be)(e:Mem)(he:e∈l):e.m<w.heap.size:=by
 obtain⟨a,b,hb⟩:=h.get e he;exact(Qq.1 hb).1
def blks (l:List Mem):List Nat:=l.map Mem.m
theorem Seg.zan {w:World}{l:List Mem}{ah be:Option Addr}(h:Seg w ah l be)(a:Addr)(ha:a.block ∉ blks l)(u:Value):Seg (w.setCell a u) ah l be:=
 h.move (λe he=>Below.heap_setCell _ _ _ _ (λx=>ha (by rw[<-x];exact List.mem_map.2 ⟨e,he,rfl⟩)))
theorem Seg.zhk {w:World}{l:List Mem}{e:Mem}{ah be:Option Addr}(h:Seg w ah (l++[e]) be)(hn:e.m ∉ blks l)(be':Option Addr):Seg (w.setCell ⟨e.m,9,none⟩ (.pointer be')) ah (l++[e]) be':=by
 rw[seg_append] at h ⊢;exact⟨h.1.zan _ hn _,za3 h.2.1 9 _,trivial⟩
theorem Seg.zjn {w:World}{r:List Mem}{e:Mem}{ah be:Option Addr}(h:Seg w ah (e::r) be)(hn:e.m ∉ blks r)(ah':Option Addr):Seg (w.setCell ⟨e.m,8,none⟩ (.pointer ah')) ah' (e::r) be:=
 ⟨za3 h.1 8 _,h.2.zan _ hn _⟩
theorem Seg.cells {w:World}{r:List Mem}{e:Mem}{ah be:Option Addr}(h:Seg w ah (e::r) be):w.heap[e.m]?=some (.cells (zcz e ah (hd r be)).toArray 179 (0,0)):=h.1
theorem zqm (m:Nat)(v:Option Addr)(w:World)(h0:w.cell? ⟨m,8,none⟩=some (.pointer v)):Calls prog 242 #[.pointer (some ⟨m,0,none⟩)] w λe w'=>e=.returned (.pointer v)/\w=w':=by
 go_enter func242,ntmps242;go_wp2;go_ret;exact⟨rfl,rfl⟩
theorem zz1 (c o a m:Nat)(w:World)(hne:a≠m)(h0:∃v,w.cell? ⟨a,9,none⟩=some v)(f0:w.frozen? ⟨a,9,none⟩=false)(h1:∃v,w.cell? ⟨m,8,none⟩=some v)(f1:w.frozen? ⟨m,8,none⟩=false):Calls prog 230 #[.pointer (some ⟨c,o,none⟩),.pointer (some ⟨a,0,none⟩),.pointer (some ⟨m,0,none⟩)] w λe w'=>e=.returned (.tuple #[])/\(w.setCell ⟨a,9,none⟩ (.pointer (some ⟨m,0,none⟩))).setCell ⟨m,8,none⟩ (.pointer (some ⟨a,0,none⟩))=w':=by
 obtain⟨v0,h0⟩:=h0;obtain⟨v1,h1⟩:=h1;have hne':m≠a:=λh=>hne h.symm;go_enter func230,ntmps230;go_wp2;go_end0;exact⟨rfl,rfl⟩
theorem join_none (c o:Nat)(w:World)(h0:∃v,w.cell? ⟨c,o,none⟩=some v)(f0:w.frozen? ⟨c,o,none⟩=false)(h1:∃v,w.cell? ⟨c,o+1,none⟩=some v)(f1:w.frozen? ⟨c,o+1,none⟩=false):Calls prog 230 #[.pointer (some ⟨c,o,none⟩),.pointer none,.pointer none] w λe w'=>e=.returned (.tuple #[])/\(w.setCell ⟨c,o,none⟩ (.pointer none)).setCell ⟨c,o+1,none⟩ (.pointer none)=w':=by
 obtain⟨v0,h0⟩:=h0;obtain⟨v1,h1⟩:=h1;go_enter func230,ntmps230;go_wp2;go_end0;exact⟨rfl,rfl⟩
structure Fr (L:List Nat)(w w':World):Prop where
 os:w'.os=w.os
 tape:w'.tape=w.tape
 output:w'.output=w.output
 size:w.heap.size<=w'.heap.size
 block:∀k,k<w.heap.size->k ∉ L->w'.heap[k]?=w.heap[k]?
theorem Fr.refl (L:List Nat)(w:World):Fr L w w:=⟨rfl,rfl,rfl,Qc _,λ_ _ _=>rfl⟩
theorem Fr.trans {L L':List Nat}{a b c:World}(h:Fr L a b)(k:Fr L' b c)(hl:∀x∈L',x∈L\/a.heap.size<=x):Fr L a c:=
 ⟨k.os.trans h.os,k.tape.trans h.tape,k.output.trans h.output,Qj h.size k.size,λx hx hn=>by
  rw[k.block x (Qh hx h.size) (λe=>by rcases hl x e with h1|h1;exact hn h1;omega),h.block x hx hn]⟩
theorem Fr.setCell {L:List Nat}{a w:World}(h:Fr L a w)(p:Addr)(hp:p.block∈L\/a.heap.size<=p.block)(u:Value):Fr L a (w.setCell p u):=
 ⟨h.os,h.tape,h.output,by have:=h.size;simpa [World.setCell] using this,λx hx hn=>by
  rw[Below.heap_setCell _ _ _ _ (λe=>by rcases hp with h1|h1;exact hn (e▸h1);omega),h.block x hx hn]⟩
theorem Fr.alloc {L:List Nat}{a w:World}(h:Fr L a w)(o:Obj):Fr L a (w.alloc o):=
 ⟨h.os,h.tape,h.output,by have:=h.size;simp;omega,λx hx hn=>by
  rw[Below.heap_alloc _ _ _ (Qh hx h.size),h.block x hx hn]⟩
theorem Fr.drew {L:List Nat}{a w:World}(h:Fr L a w):Fr L a w.drew:=⟨h.os,h.tape,h.output,h.size,h.block⟩
theorem Fr.zii {L:List Nat}{w w':World}(h:Below w.heap.size w w'):Fr L w w':=⟨h.os,h.tape,h.output,h.size,λx hx _=>h.block x hx⟩
theorem Fr.below {L:List Nat}{w w':World}{B:Nat}(h:Fr L w w')(hB:B<=w.heap.size)(hl:∀x∈L,B<=x):Below B w w':=⟨h.os,h.tape,h.output,h.size,λx hx=>h.block x (by omega) (λe=>by have:=hl x e;omega)⟩
def zmo (cs:List Value)(o:Nat)(f l:Option Addr):List Value:=(cs.set o (.pointer f)).set (o+1) (.pointer l)
def Hdr (w:World)(c o T:Nat)(cs:List Value)(f l:Option Addr):Prop:=w.heap[c]?=some (.cells (zmo cs o f l).toArray T (0,0))/\o+1<cs.length
theorem Hdr.first {w:World}{c o T:Nat}{cs:List Value}{f l:Option Addr}(h:Hdr w c o T cs f l)(f':Option Addr):Hdr (w.setCell ⟨c,o,none⟩ (.pointer f')) c o T cs f' l:=by
 refine⟨?_,h.2⟩;have:=za3 h.1 o (.pointer f');rw[this];congr 2;unfold zmo;rw[List.set_comm _ _ (by omega),List.set_set]
theorem Hdr.last {w:World}{c o T:Nat}{cs:List Value}{f l:Option Addr}(h:Hdr w c o T cs f l)(l':Option Addr):Hdr (w.setCell ⟨c,o+1,none⟩ (.pointer l')) c o T cs f l':=by
 refine⟨?_,h.2⟩;have:=za3 h.1 (o+1) (.pointer l');rw[this];congr 2;unfold zmo;rw[List.set_set]
theorem Hdr.other {w:World}{c o T:Nat}{cs:List Value}{f l:Option Addr}(h:Hdr w c o T cs f l)(a:Addr)(ha:a.block≠c)(u:Value):Hdr (w.setCell a u) c o T cs f l:=
 ⟨by rw[Below.heap_setCell _ _ _ _ (λe=>ha e.symm)];exact h.1,h.2⟩
theorem Hdr.zt5 {w:World}{c o T:Nat}{cs:List Value}{f l:Option Addr}(h:Hdr w c o T cs f l):w.cell? ⟨c,o,none⟩=some (.pointer f):=
 za0 h.1 o _ (by unfold zmo;rw[List.getElem?_toArray,List.getElem?_set_ne (by omega),List.getElem?_set_self (by have:=h.2;omega)])
theorem Hdr.cellL {w:World}{c o T:Nat}{cs:List Value}{f l:Option Addr}(h:Hdr w c o T cs f l):w.cell? ⟨c,o+1,none⟩=some (.pointer l):=
 za0 h.1 (o+1) _ (by unfold zmo;rw[List.getElem?_toArray,List.getElem?_set_self (by rw[List.length_set];exact h.2)])
theorem Hdr.free {w:World}{c o T:Nat}{cs:List Value}{f l:Option Addr}(h:Hdr w c o T cs f l)(i:Nat):w.frozen? ⟨c,i,none⟩=false:=za7 h.1 i
theorem Hdr.move {w w':World}{c o T:Nat}{cs:List Value}{f l:Option Addr}(h:Hdr w c o T cs f l)(hw:w'.heap[c]?=w.heap[c]?):Hdr w' c o T cs f l:=⟨by rw[hw];exact h.1,h.2⟩
theorem zcp (l:List Mem)(e:Mem)(ah:Option Addr):lst (l++[e]) ah=some e.ad:=by rw[zc6];rfl
theorem zms (l:List Mem)(h:l≠[]):∃l0 e,l=l0++[e]:=⟨l.dropLast,l.getLast h,(List.dropLast_concat_getLast h).symm⟩
theorem zf2 (c o T:Nat)(cs:List Value)(f l:Option Addr)(P Q:List Mem)(ah be x y:Option Addr)(w:World)(hP:Seg w ah P x)(hQ:Seg w y Q be)(hn:(blks (P++Q)).Nodup)(hc:c ∉ blks (P++Q))(hH:Hdr w c o T cs f l)(hah:P=[]->ah=none)(hbe:Q=[]->be=none):Calls prog 230 #[.pointer (some ⟨c,o,none⟩),.pointer (lst P none),.pointer (hd Q none)] w λe w'=>e=.returned (.tuple #[])/\Seg w' ah (P++Q) be/\Hdr w' c o T cs (if P=[] then hd Q none else f) (if Q=[] then lst P none else l)/\Fr (c::blks (P++Q)) w w'/\w.heap.size=w'.heap.size:=by
 have hsz:∀(a b:Addr) (u v:Value),w.heap.size=((w.setCell a u).setCell b v).heap.size:=λa b u v=>by simp[World.setCell]
 by_cases hp:P=[]
 ·subst hp;cases Q with
  | nil=>
   refine(join_none c o w ⟨_,hH.zt5⟩ (hH.free _) ⟨_,hH.cellL⟩ (hH.free _)).mono ?_;rintro e w'⟨rfl,rfl⟩;exact⟨rfl,trivial,(hH.first none).last none,((Fr.refl _ w).setCell _ (.inl (by simp)) _).setCell _ (.inl (by simp)) _,hsz _ _ _ _⟩
  | cons b Q0=>
   have hcb:c≠b.m:=λe=>hc (by simp[blks,e]);have hbn:b.m ∉ blks Q0:=by have:=List.nodup_cons.1 (show (b.m::blks Q0).Nodup from hn);exact this.1
   have hQb:=hQ.cells;refine(zvx c o b.m w hcb ⟨_,hH.zt5⟩ (hH.free _) ⟨_,za0 hQb 8 _ rfl⟩ (za7 hQb _)).mono ?_;rintro e w'⟨rfl,rfl⟩;have h1:=hQ.zan ⟨c,o,none⟩ (by simpa using hc) (.pointer (some b.ad));rw[hah rfl];refine⟨rfl,h1.zjn hbn none,((hH.first _).other ⟨b.m,8,none⟩ (λe=>hcb e.symm) _),((Fr.refl _ w).setCell _ (.inl (by simp)) _).setCell _ (.inl (by simp[blks])) _,hsz _ _ _ _⟩
 ·obtain⟨P0,a,rfl⟩:=zms P hp;have hca:c≠a.m:=λe=>hc (by simp[blks,e]);have han:a.m ∉ blks P0:=by
   have h2:(blks P0++(a.m::blks Q)).Nodup:=by simpa [blks,List.append_assoc] using hn
   have h3:=List.nodup_append.1 h2;intro hm;exact h3.2.2 a.m hm a.m (by simp) rfl
  have hPa:=((seg_append w P0 [a] ah x).1 hP).2.cells;rw[zcp,if_neg hp];cases Q with
  | nil=>
   refine(zze c o a.m w hca ⟨_,hH.cellL⟩ (hH.free _) ⟨_,za0 hPa 9 _ rfl⟩ (za7 hPa _)).mono ?_;rintro e w'⟨rfl,rfl⟩;rw[hbe rfl,Qbk];have h1:=hP.zhk han none;refine⟨rfl,h1.zan _ (by simpa using hc) _,(hH.other ⟨a.m,9,none⟩ (λe=>hca e.symm) _).last _,((Fr.refl _ w).setCell _ (.inl (by simp[blks])) _).setCell _ (.inl (by simp)) _,hsz _ _ _ _⟩
  | cons b Q0=>
   have hab:a.m≠b.m:=by
    have h2:(blks P0++(a.m::b.m::blks Q0)).Nodup:=(by simpa [blks,List.append_assoc] using hn);have h3:=(List.nodup_append.1 h2).2.1;have:=(List.nodup_cons.1 h3).1;intro e;exact this (by simp[e])
   have bg:∀z∈blks (P0++[a]),z ∉ blks (b::Q0):=by
    have h2:(blks (P0++[a])++blks (b::Q0)).Nodup:=(by simpa [blks,List.append_assoc] using hn);have h3:=(List.nodup_append.1 h2).2.2;intro z h4 h5;exact h3 z h4 z h5 rfl
   have hbn:b.m ∉ blks Q0:=by
    have h2:(blks (P0++[a])++blks (b::Q0)).Nodup:=(by simpa [blks,List.append_assoc] using hn);exact(List.nodup_cons.1 (show (b.m::blks Q0).Nodup from(List.nodup_append.1 h2).2.1)).1
   have hcb:c≠b.m:=λe=>hc (by simp[blks,e]);have hQb:=hQ.cells;refine(zz1 c o a.m b.m w hab ⟨_,za0 hPa 9 _ rfl⟩ (za7 hPa _) ⟨_,za0 hQb 8 _ rfl⟩ (za7 hQb _)).mono ?_;rintro e w'⟨rfl,rfl⟩;have h1:=(hP.zhk han (some b.ad)).zan ⟨b.m,8,none⟩ (λhz=>bg b.m hz (by simp[blks])) (.pointer (some a.ad));have h2:=(hQ.zan ⟨a.m,9,none⟩ (bg a.m (by simp[blks])) (.pointer (some b.ad))).zjn hbn (some a.ad);refine⟨rfl,(seg_append _ _ _ _ _).2 ⟨h1,?_⟩,((hH.other ⟨a.m,9,none⟩ (λe=>hca e.symm) _).other ⟨b.m,8,none⟩ (λe=>hcb e.symm) _),((Fr.refl _ w).setCell _ (.inl (by simp[blks])) _).setCell _ (.inl (by simp[blks])) _,hsz _ _ _ _⟩;rw[zcp];exact h2
structure Ch (w:World)(c o T:Nat)(cs:List Value)(l:List Mem):Prop where
 seg:Seg w none l none
 hdr:Hdr w c o T cs (hd l none) (lst l none)
 nodup:(blks l).Nodup
 out:c ∉ blks l
theorem Ch.lt {w:World}{c o T:Nat}{cs:List Value}{l:List Mem}(h:Ch w c o T cs l):c<w.heap.size:=(Qq.1 h.hdr.1).1
theorem Ch.mlt {w:World}{c o T:Nat}{cs:List Value}{l:List Mem}(h:Ch w c o T cs l)(x:Nat)(hx:x∈blks l):x<w.heap.size:=by
 obtain⟨e,he,rfl⟩:=List.mem_map.1 hx;exact h.seg.lt e he
theorem Ch.move {w w':World}{c o T:Nat}{cs:List Value}{l:List Mem}(h:Ch w c o T cs l)(hw:∀x∈c::blks l,w'.heap[x]?=w.heap[x]?):Ch w' c o T cs l:=
 ⟨h.seg.move (λe he=>hw e.m (by simp[blks];exact .inr ⟨e,he,rfl⟩)),h.hdr.move (hw c (by simp)),h.nodup,h.out⟩
def zhq (p:Pt)(kf kl:Option Addr):Value:=.agg #[.int .i64 p.kind,.string (S.B p.info),.string (S.B p.text),.pointer kf,.pointer kl,.int .i64 (p.rs:Nat),.bool p.ro,.bool p.rc]
theorem zk6 (c o T:Nat)(cs:List Value)(l:List Mem)(p:Pt)(kf kl:Option Addr)(w:World)(h:Ch w c o T cs l):Calls prog 196 #[.pointer (some ⟨c,o,none⟩),zhq p kf kl] w λe w'=>
   e=.returned (.pointer (some ⟨w.heap.size+1,0,none⟩))/\Ch w' c o T cs (l++[⟨w.heap.size+1,p,kf,kl⟩])/\Fr (c::blks l) w w'/\w.heap.size+2=w'.heap.size:=by
 have hcl:=h.lt;obtain⟨e,he⟩:∃e:Mem,e=⟨w.heap.size+1,p,kf,kl⟩:=⟨_,rfl⟩;have hem:e.m=w.heap.size+1:=by rw[he]
 obtain⟨w2,hw2⟩:=Qzz ((w.alloc (.cells #[.int .i64 p.kind,.string (S.B p.info),.string (S.B p.text),.pointer kf,.pointer kl,.int .i64 (p.rs:Nat),.bool p.ro,.bool p.rc] 177)).alloc (.cells #[.int .i64 p.kind,.string (S.B p.info),.string (S.B p.text),.pointer kf,.pointer kl,.int .i64 (p.rs:Nat),.bool p.ro,.bool p.rc,.pointer none,.pointer none] 179));have hs1:∀ob,(w.alloc ob).heap.size=w.heap.size+1:=by intro ob;simp
 have hs2:w2.heap.size=w.heap.size+2:=by rw[hw2];simp
 have hf2:Fr (c::blks l) w w2:=by rw[hw2];exact((Fr.refl _ w).alloc _).alloc _
 have hb2:∀x,x<w.heap.size->w2.heap[x]?=w.heap[x]?:=by
  intro x hx;rw[hw2,Below.heap_alloc _ _ _ (by rw[hs1];omega),Below.heap_alloc _ _ _ hx]
 have dh:Ch w2 c o T cs l:=h.move (λx hx=>hb2 x (by simp at hx;rcases hx with rfl|hx;exact hcl;exact h.mlt x hx))
 have hE2:Seg w2 none [e] none:=⟨by rw[hem,he,hw2,<-hs1];exact za1 _ _,trivial⟩;have hfr:∀x∈blks l,x≠e.m:=λx hx=>by have:=h.mlt x hx;omega
 have hnd:(blks (l++[e])).Nodup:=by
  have:blks (l++[e])=blks l++[e.m]:=by simp[blks]
  rw[this,List.nodup_append];exact⟨h.nodup,by simp,λa ha b hb=>by simp at hb;subst hb;exact hfr a ha⟩
 have hcn:c ∉ blks (l++[e]):=by
  have:blks (l++[e])=blks l++[e.m]:=by simp[blks]
  rw[this,Qbh,not_or];exact⟨h.out,by simp;omega⟩
 have dw:=hid (zf2 c o T cs _ _ l [e] none none none none w2 dh.seg hE2 hnd hcn dh.hdr (λ_=>rfl) (λh=>by simp at h));have q1:=h.hdr.cellL;have hcl0:¬c=w.heap.size:=by omega
 have jw:¬c=w.heap.size+1:=by omega
 have hde:hd [e] none=some (⟨w.heap.size+1,0,none⟩:Addr):=by show some (⟨e.m,0,none⟩:Addr)=_;rw[hem]
 rw[hde] at dw;have jd:=hid hw2;have bg:(if l=[] then (some (⟨w.heap.size+1,0,none⟩:Addr)) else hd l none)=hd (l++[e]) none:=by
  cases l with
  | nil=>simp[hd,Mem.ad,hem]
  | cons x r=>rfl
 rw[bg] at dw;rw[if_neg (by simp:¬([e]=[]))] at dw;have hJ2:=hid (λ(w3:World) (h1:Seg w3 none (l++[e]) none) (h2:Hdr w3 c o T cs (hd (l++[e]) none) (lst l none))=>zf2 c o T cs _ _ (l++[e]) [] none none none none w3 h1 trivial (by rw[Qbk];exact hnd) (by rw[Qbk];exact hcn) h2 (λ_=>rfl) (λ_=>rfl));rw[zcp] at hJ2;have hne:¬(l++[e]=[]):=by simp
 have hadd:e.ad=(⟨w.heap.size+1,0,none⟩:Addr):=by show (⟨e.m,0,none⟩:Addr)=_;rw[hem]
 simp only[Qbk,if_neg hne,hadd,if_pos] at hJ2;have hblk:blks (l++[e])=blks l++[w.heap.size+1]:=by simp[blks,hem]
 rw[hblk] at dw hJ2;have jq:=hid he;have jh:=hid hnd;have jm:=hid hcn;have jl:=hid hf2;have jg:=hid hs2;clear hs1 hs2 hf2 hb2 dh hE2 hfr hnd hcn hde bg hne hem hw2 he;unfold zhq;go_enter func196,ntmps196;go_wp2_with fail
 rw[<-jd.out];refine dw.out.mono ?_;rintro e1 w3⟨rfl,hs3,hh3,hf3,hz3⟩;have jy:=hid (hJ2.out w3 hs3 hh3);have jk:=hid hf3;have gy:=hid hz3;clear hs3 hh3 hf3 hz3;go_wp2_with fail
 refine jy.out.mono ?_;rintro e2 w4⟨rfl,hs4,dx,fq,gq⟩;have h4:=hid (And.intro hs4 (And.intro dx (And.intro fq gq)));clear hs4 dx fq gq;go_wp2;go_ret;obtain⟨hs4,dx,fq,gq⟩:=h4.out;rw[<-jq.out];refine⟨rfl,⟨hs4,?_,jh.out,jm.out⟩,?_,?_⟩
 ·rw[zcp,hadd];exact dx
 ·have hl:∀x∈c::(blks l++[w.heap.size+1]),x∈c::blks l\/w.heap.size<=x:=by
   intro x hx;simp at hx ⊢;rcases hx with h|h|h
   ·exact .inl (.inl h)
   ·exact .inl (.inr h)
   ·exact .inr (by omega)
  exact(jl.out.trans jk.out hl).trans fq hl
 ·have:=jg.out;have:=gy.out;omega
theorem zac (l r:List Mem):blks (l++r)=blks l++blks r:=by simp[blks]
theorem zzh {P Q:List Nat}{a e:Nat}(h:(P++a::Q).Nodup)(he:∀x∈P++a::Q,x≠e):(P++a::e::Q).Nodup:=by
 have h2:=List.nodup_append.1 h;have h3:=List.nodup_cons.1 h2.2.1;rw[List.nodup_append];refine⟨h2.1,?_,?_⟩
 ·rw[List.nodup_cons,List.nodup_cons];refine⟨?_,?_,h3.2⟩
  ·intro hm;simp at hm;rcases hm with hm|hm
   ·exact he a (by simp) hm
   ·exact h3.1 hm
  ·intro hm;exact he e (by simp[hm]) rfl
 ·intro x hx y hy e1;simp at hy;rcases hy with hy|hy|hy
  ·exact h2.2.2 x hx a (by simp) (e1.trans hy)
  ·exact he x (by simp[hx]) (e1.trans hy)
  ·exact h2.2.2 x hx y (by simp[hy]) e1
theorem zkc (c o T:Nat)(cs:List Value)(P Q:List Mem)(a:Mem)(p:Pt)(kf kl:Option Addr)(w:World)(h:Ch w c o T cs (P++a::Q)):Calls prog 244 #[.pointer (some ⟨c,o,none⟩),.pointer (some ⟨a.m,0,none⟩),zhq p kf kl] w λe w'=>
   e=.returned (.pointer (some ⟨w.heap.size+1,0,none⟩))/\Ch w' c o T cs (P++a :: ⟨w.heap.size+1,p,kf,kl⟩ :: Q)/\Fr (c::blks (P++a::Q)) w w'/\w.heap.size+2=w'.heap.size:=by
 have hcl:=h.lt;have hal:a.m<w.heap.size:=h.mlt a.m (by simp[blks]);obtain⟨e,he⟩:∃e:Mem,e=⟨w.heap.size+1,p,kf,kl⟩:=⟨_,rfl⟩;have hem:e.m=w.heap.size+1:=by rw[he]
 obtain⟨w2,hw2⟩:=Qzz ((w.alloc (.cells #[.int .i64 p.kind,.string (S.B p.info),.string (S.B p.text),.pointer kf,.pointer kl,.int .i64 (p.rs:Nat),.bool p.ro,.bool p.rc] 177)).alloc (.cells #[.int .i64 p.kind,.string (S.B p.info),.string (S.B p.text),.pointer kf,.pointer kl,.int .i64 (p.rs:Nat),.bool p.ro,.bool p.rc,.pointer none,.pointer none] 179));have hs1:∀ob,(w.alloc ob).heap.size=w.heap.size+1:=by intro ob;simp
 have hs2:w2.heap.size=w.heap.size+2:=by rw[hw2];simp
 have hf2:Fr (c::blks (P++a::Q)) w w2:=by rw[hw2];exact((Fr.refl _ w).alloc _).alloc _
 have hb2:∀x,x<w.heap.size->w2.heap[x]?=w.heap[x]?:=by
  intro x hx;rw[hw2,Below.heap_alloc _ _ _ (by rw[hs1];omega),Below.heap_alloc _ _ _ hx]
 have dw:Ch w2 c o T cs (P++a::Q):=h.move (λx hx=>hb2 x (by rcases List.mem_cons.1 hx with rfl|hx;exact hcl;exact h.mlt x hx))
 have hE2:Seg w2 none [e] none:=⟨by rw[hem,he,hw2,<-hs1];exact za1 _ _,trivial⟩;have hbk:blks (P++a::Q)=blks P++a.m::blks Q:=by simp[blks]
 have hbk2:blks (P++a::e::Q)=blks P++a.m::e.m::blks Q:=by simp[blks]
 have hfr:∀x∈blks P++a.m::blks Q,x≠e.m:=λx hx=>by have:=h.mlt x (by rw[hbk];exact hx);omega
 have hnd:(blks (P++a::e::Q)).Nodup:=by rw[hbk2];exact zzh (by rw[<-hbk];exact h.nodup) hfr
 have hcn:c ∉ blks (P++a::e::Q):=by
  have h1:=h.out;rw[hbk] at h1;rw[hbk2];simp only[Qbh,List.mem_cons,not_or] at h1 ⊢;exact⟨h1.1,h1.2.1,by omega,h1.2.2⟩
 have dx:(blks ([e]++Q)).Nodup:=by
  have:=(List.nodup_append.1 (show (blks P++a.m::e.m::blks Q).Nodup by rw[<-hbk2];exact hnd)).2.1;exact(List.nodup_cons.1 this).2
 have gy:c ∉ blks ([e]++Q):=by
  intro hm;apply hcn;rw[hbk2];simp[blks] at hm ⊢;rcases hm with hm|hm
  ·exact .inr (.inr (.inl hm))
  ·exact .inr (.inr (.inr hm))
 have hsg:P++a::Q=(P++[a])++Q:=by simp
 have bg:=dw.seg;rw[hsg,seg_append] at bg;have lg:=hid (zf2 c o T cs _ _ [e] Q none none none (lst (P++[a]) none) w2 hE2 bg.2 dx gy dw.hdr (λh=>by simp at h) (λ_=>rfl));have hle:lst [e] none=some (⟨w.heap.size+1,0,none⟩:Addr):=by show some (⟨e.m,0,none⟩:Addr)=_;rw[hem]
 rw[hle,if_neg (by simp:¬([e]=[]))] at lg;have pq:w.cell? ⟨a.m,9,none⟩=some (.pointer (hd Q none)):=by
  have hh:=h.seg;rw[hsg,seg_append,seg_append] at hh;exact za0 hh.1.2.cells 9 _ rfl
 have ng:=hid bg.1;have gq:∀x∈P++[a],x.m ∉ c::blks ([e]++Q):=by
  intro x hx hm;have hxb:x.m∈blks (P++[a]):=List.mem_map.2 ⟨x,hx,rfl⟩;rcases List.mem_cons.1 hm with hm|hm
  ·apply hcn;rw[<-hm,show P++a::e::Q=(P++[a])++([e]++Q) by simp,zac];exact List.mem_append_left _ hxb
  ·have h2:(blks (P++[a])++blks ([e]++Q)).Nodup:=by rw[<-zac];simpa using hnd
   exact(List.nodup_append.1 h2).2.2 x.m hxb x.m hm rfl
 have hJ2:=hid (λ(w3:World) (lh:Option Addr) (h1:Seg w3 none (P++[a]) (hd Q none)) (h1':Seg w3 none ([e]++Q) none) (h2:Hdr w3 c o T cs (hd (P++a::Q) none) lh)=>zf2 c o T cs _ _ (P++[a]) ([e]++Q) none none (hd Q none) none w3 h1 h1' (by simpa using hnd) (by simpa using hcn) h2 (λh=>by simp at h) (λh=>by simp at h));rw[zcp] at hJ2;have hde:hd ([e]++Q) none=some (⟨w.heap.size+1,0,none⟩:Addr):=by show some (⟨e.m,0,none⟩:Addr)=_;rw[hem]
 simp only[hde,if_neg (show ¬(P++[a]=[]) by simp),if_neg (show ¬([e]++Q=[]) by simp)] at hJ2;have heq:(P++[a])++([e]++Q)=P++a::e::Q:=by simp
 rw[heq] at hJ2;have lq:=hid he;have dh:=hid hem;have jq:=hid hnd;have kr:=hid hcn;have kg:=hid hf2;have jm:=hid hs2;have fq:=hid gq;have jl:=hid hw2;have jw:Hid (∀x∈P++[a],x.m<w2.heap.size):=hid (λx hx=>by have:=h.mlt x.m (by rw[hsg,zac];exact List.mem_append_left _ (List.mem_map.2 ⟨x,hx,rfl⟩));omega);clear hs1 hs2 hf2 hb2 dw hE2 hfr hnd hcn hde hle hem hw2 he bg dx gy gq;have mq:¬a.m=w.heap.size:=by omega
 have mh:¬a.m=w.heap.size+1:=by omega
 unfold zhq;go_enter func244,ntmps244;go_wp2_with fail
 rw[<-jl.out];refine lg.out.mono ?_;rintro e1 w3⟨rfl,hs3,hh3,hf3,hz3⟩;have hP3:Seg w3 none (P++[a]) (hd Q none):=ng.out.move (λx hx=>hf3.block x.m (jw.out x hx) (fq.out x hx));have ny:=hid (hJ2.out w3 _ hP3 hs3 hh3);have jy:=hid hf3;have jk:=hid hz3;clear hs3 hh3 hf3 hz3 hP3;go_wp2_with fail
 refine ny.out.mono ?_;rintro e2 w4⟨rfl,hs4,jd,jg,jh⟩;have h4:=hid (And.intro hs4 (And.intro jd (And.intro jg jh)));clear hs4 jd jg jh;go_wp2;go_ret;obtain⟨hs4,jd,jg,jh⟩:=h4.out;rw[<-lq.out];refine⟨rfl,⟨hs4,?_,jq.out,kr.out⟩,?_,?_⟩
 ·have e1:hd (P++a::e::Q) none=hd (P++a::Q) none:=by rw[zd8,zd8];rfl
  have e2:lst (P++a::e::Q) none=if Q=[] then some (⟨w.heap.size+1,0,none⟩:Addr) else lst (P++a::Q) none:=by
   rw[zc6,zc6];cases Q with
   | nil=>simp[lst,Mem.ad,dh.out]
   | cons q r=>simp[lst]
  rw[e1,e2];exact jd
 ·have hl1:∀x∈c::blks ([e]++Q),x∈c::blks (P++a::Q)\/w.heap.size<=x:=by
   intro x hx;have:=dh.out;simp[blks] at hx ⊢;rcases hx with h|h|⟨y,h,h'⟩
   ·exact .inl (.inl h)
   ·exact .inr (by omega)
   ·exact .inl (.inr (.inr (.inr ⟨y,h,h'⟩)))
  have hl2:∀x∈c::blks (P++a::e::Q),x∈c::blks (P++a::Q)\/w.heap.size<=x:=by
   intro x hx;have:=dh.out;simp[blks] at hx ⊢;rcases hx with h|⟨y,h,h'⟩|h|h|⟨y,h,h'⟩
   ·exact .inl (.inl h)
   ·exact .inl (.inr (.inl ⟨y,h,h'⟩))
   ·exact .inl (.inr (.inr (.inl h)))
   ·exact .inr (by omega)
   ·exact .inl (.inr (.inr (.inr ⟨y,h,h'⟩)))
  exact(kg.out.trans jy.out hl1).trans jg hl2
 ·have:=jm.out;have:=jk.out;omega
theorem zce (P Q:List Mem)(a:Mem):blks (P++a::Q)=blks P++a.m::blks Q:=by simp[blks]
theorem zpv {P Q:List Nat}{a:Nat}(h:(P++a::Q).Nodup):(P++Q).Nodup/\a ∉ P++Q:=by
 have h2:=List.nodup_append.1 h;have h3:=List.nodup_cons.1 h2.2.1;refine⟨List.nodup_append.2 ⟨h2.1,h3.2,λx hx y hy=>h2.2.2 x hx y (by simp[hy])⟩,?_⟩;intro hm;rcases Qbh.1 hm with hm|hm
 ·exact h2.2.2 a hm a (by simp) rfl
 ·exact h3.1 hm
theorem zw9 (c o T:Nat)(cs:List Value)(P Q:List Mem)(a:Mem)(w:World)(h:Ch w c o T cs (P++a::Q)):Calls prog 209 #[.pointer (some ⟨c,o,none⟩),.pointer (some ⟨a.m,0,none⟩)] w λe w'=>
   e=.returned (.tuple #[])/\Ch w' c o T cs (P++Q)/\Fr (c::blks (P++a::Q)) w w'/\w.heap.size=w'.heap.size:=by
 have hseg:=h.seg;rw[seg_append] at hseg;have hA:=hseg.2.cells;have a8:w.cell? ⟨a.m,8,none⟩=some (.pointer (lst P none)):=za0 hA 8 _ rfl;have a9:w.cell? ⟨a.m,9,none⟩=some (.pointer (hd Q none)):=za0 hA 9 _ rfl;have hnn:=zpv (by rw[<-zce];exact h.nodup);have hcn:c ∉ blks (P++Q)/\c≠a.m:=by
  have h1:=h.out;rw[zce] at h1;rw[zac];simp only[Qbh,List.mem_cons,not_or] at h1 ⊢;exact⟨⟨h1.1,h1.2.2⟩,h1.2.1⟩
 have hal:a.m<w.heap.size:=h.mlt a.m (by simp[blks]);have hac:a.m ∉ c::blks (P++Q):=by
  rw[List.mem_cons,not_or];exact⟨λe=>hcn.2 e.symm,by rw[zac];exact hnn.2⟩
 have hJ:=hid (λ(wx:World) (hx:wx.heap=w.heap)=>zf2 c o T cs (hd (P++a::Q) none) (lst (P++a::Q) none) P Q none none (hd (a::Q) none) (some a.ad) wx (hseg.1.move (λe _=>by rw[hx])) (hseg.2.2.move (λe _=>by rw[hx])) (by rw[zac];exact hnn.1) hcn.1 (h.hdr.move (by rw[hx])) (λ_=>rfl) (λ_=>rfl));have e1:(if P=[] then hd Q none else hd (P++a::Q) none)=hd (P++Q) none:=by
  cases P with
  | nil=>rfl
  | cons x r=>rfl
 have e2:(if Q=[] then lst P none else lst (P++a::Q) none)=lst (P++Q) none:=by
  cases Q with
  | nil=>simp
  | cons x r=>rw[if_neg (by simp),zc6,zc6];rfl
 simp only[e1,e2] at hJ;have gq:=hid hA;have dw:=hid hac;have dh:=hid hcn;have fq:=hid hnn;have bg:=hid hal;clear e1 e2 hseg hA hac hcn hnn;go_enter func209,ntmps209;go_wp2_with fail
 go_region_held3 (λw'=>w'.cell? ⟨a.m,8,none⟩=some (.pointer (lst P none))/\w'.cell? ⟨a.m,9,none⟩=some (.pointer (hd Q none)))
  ((refine⟨?_,?_⟩<;>assumption))
  ((go_at_call 230;refine(hJ.out w.drew rfl).mono ?_;rintro e1 w1⟨rfl,hs1,dx,hf1,hz1⟩;have hA1:=(hf1.block a.m bg.out dw.out).trans gq.out;have k8:w1.cell? ⟨a.m,8,none⟩=some (.pointer (lst P none)):=za0 hA1 8 _ rfl;have k9:w1.cell? ⟨a.m,9,none⟩=some (.pointer (hd Q none)):=za0 hA1 9 _ rfl))
 have f1:=za7 hA1;have hall:=hid (And.intro hs1 (And.intro dx (And.intro hf1 hz1)));clear hs1 dx hf1 hz1 hA1;go_wp2;go_end0;obtain⟨hs1,dx,hf1,hz1⟩:=hall.out;have hna:a.m ∉ blks (P++Q):=λhm=>dw.out (Qo _ hm);refine⟨rfl,⟨?_,?_,by rw[zac];exact fq.out.1,dh.out.1⟩,?_,?_⟩
 ·exact(hs1.zan _ hna _).zan _ hna _
 ·exact(dx.other ⟨a.m,8,none⟩ (λe=>dh.out.2 e.symm) _).other ⟨a.m,9,none⟩ (λe=>dh.out.2 e.symm) _
 ·have hl:∀x∈c::blks (P++Q),x∈c::blks (P++a::Q)\/w.heap.size<=x:=by
   intro x hx;rw[zce];rw[zac] at hx;simp at hx ⊢;rcases hx with h|h|h
   ·exact .inl (.inl h)
   ·exact .inl (.inr (.inl h))
   ·exact .inl (.inr (.inr (.inr h)))
  exact((((Fr.refl _ w).drew).trans hf1 hl).setCell _ (.inl (by simp[blks])) _).setCell _ (.inl (by simp[blks])) _
 ·have e:∀(a b:Addr) (u v:Value),((w1.setCell a u).setCell b v).heap.size=w1.heap.size:=λa b u v=>by simp[World.setCell]
  rw[e];exact hz1
theorem Tryz.zxq:(prog.info? 179).map (λi=>i.size)=some 10:=by kernel_rfl
theorem zzk (a:Addr)(w:World):(binOp .eql 133 (.pointer (some a)) (.pointer (some a))).run prog w=.ok (.bool true) w:=by
 obtain⟨j,hj,_⟩:=Option.map_eq_some_iff.1 Tryz.zxq;have h:∀d:Nat,(Op.equalIn (d+1) 133 (.pointer (some a)) (.pointer (some a))).run prog w=.ok true w:=λd=>by
  simp[Op.equalIn,run_underlying underlying133,sizeOf,typeInfo,hj,run_sameAddr_same]
 simp only[binOp];simp[Op.equal,Op.maxDepth,h 9999]
theorem zyo (a b:Addr)(w:World)(hne:a≠b){ca cb:Array Value}{ta tb:TypeId}(ha:w.heap[a.block]?=some (.cells ca ta (0,0)))(hb:w.heap[b.block]?=some (.cells cb tb (0,0))):(binOp .eql 133 (.pointer (some a)) (.pointer (some b))).run prog w=.ok (.bool false) w:=by
 obtain⟨j,hj,hz⟩:=Option.map_eq_some_iff.1 Tryz.zxq;have h:∀d:Nat,(Op.equalIn (d+1) 133 (.pointer (some a)) (.pointer (some b))).run prog w=.ok false w:=λd=>by
  simp[Op.equalIn,run_underlying underlying133,sizeOf,typeInfo,hj,hz,run_sameAddr_other w hne ha hb]
 simp only[binOp];simp[Op.equal,Op.maxDepth,h 9999]
theorem zq5 (c o:Nat)(a:Mem)(Q:List Mem)(w:World)(h9:w.cell? ⟨a.m,9,none⟩=some (.pointer (hd Q none)))(hal:a.m<w.heap.size):Calls prog 238 #[.pointer (some ⟨c,o,none⟩),.pointer (some ⟨a.m,0,none⟩),.pointer (hd Q none)] w λe w'=>e=.returned (.agg #[.pointer none,.pointer none])/\Below w.heap.size w w':=by
 have bg:¬a.m=w.heap.size:=by omega
 cases Q with
 | nil=>
  simp only[hd] at h9 ⊢;go_enter func238,ntmps238;go_wp2;exact bodyPost_ret (v:=.agg #[.pointer none,.pointer none]) (by simp[results,results238,go_sem]) rfl ⟨rfl,(Below.refl _ _).alloc (Qc _) _⟩
 | cons b r=>
  simp only[hd,Mem.ad] at h9 ⊢;have hpe:=λwx=>zzk ⟨b.m,0,none⟩ wx;go_enter func238,ntmps238;go_wp2;exact bodyPost_ret (v:=.agg #[.pointer none,.pointer none]) (by simp[results,results238,go_sem]) rfl ⟨rfl,(Below.refl _ _).alloc (Qc _) _⟩
theorem z0e (c o T:Nat)(cs:List Value)(P M:List Mem)(a m0:Mem)(w:World)(h:Ch w c o T cs (P++a::(m0::M))):Calls prog 238 #[.pointer (some ⟨c,o,none⟩),.pointer (some ⟨a.m,0,none⟩),.pointer none] w λe w'=>e=.returned (.agg #[.pointer (some ⟨m0.m,0,none⟩),.pointer (lst (m0::M) none)])/\Ch w' c o T cs (P++[a])/\Seg w' none (m0::M) none/\Fr (c::blks (P++a::(m0::M))) w w':=by
 have hcl:=h.lt;have hseg:=h.seg;rw[seg_append] at hseg;have hA:=hseg.2.cells;have a9:w.cell? ⟨a.m,9,none⟩=some (.pointer (some ⟨m0.m,0,none⟩)):=za0 hA 9 _ rfl;obtain⟨M0,z,kg⟩:=zms (m0::M) (by simp);have hlz:lst (m0::M) none=some (⟨z.m,0,none⟩:Addr):=by rw[kg];exact zcp _ _ _
 have gq:lst (P++a::m0::M) none=some (⟨z.m,0,none⟩:Addr):=by rw[zc6];show lst (m0::M) (some a.ad)=_;rw[kg];exact zcp _ _ _
 have cL:w.cell? ⟨c,o+1,none⟩=some (.pointer (some ⟨z.m,0,none⟩)):=by rw[<-gq];exact h.hdr.cellL
 have hal:a.m<w.heap.size:=h.mlt a.m (by simp[blks]);have qx:¬a.m=w.heap.size:=by omega
 have qp:¬a.m=w.heap.size+1:=by omega
 have hcl0:¬c=w.heap.size:=by omega
 have qm:¬c=w.heap.size+1:=by omega
 obtain⟨w2,hw2⟩:=Qzz (((w.alloc (.cells #[.pointer none,.pointer none] 135)).alloc (.cells #[.pointer (some ⟨m0.m,0,none⟩),.pointer (some ⟨z.m,0,none⟩)] 135)).drew);have hs1:∀ob,(w.alloc ob).heap.size=w.heap.size+1:=by intro ob;simp
 have hs2:w2.heap.size=w.heap.size+2:=by rw[hw2];simp
 have hb2:∀x,x<w.heap.size->w2.heap[x]?=w.heap[x]?:=by
  intro x hx;rw[hw2];show ((w.alloc _).alloc _).heap[x]?=_;rw[Below.heap_alloc _ _ _ (by rw[hs1];omega),Below.heap_alloc _ _ _ hx]
 have qz:Hid (w2.heap[w.heap.size]?=some (.cells #[.pointer none,.pointer none] 135 (0,0))):=hid (by rw[hw2];show ((w.alloc _).alloc _).heap[w.heap.size]?=_;rw[Below.heap_alloc _ _ _ (by simp)];exact za1 _ _);have qy:Hid (w2.heap[w.heap.size+1]?=some (.cells #[.pointer (some ⟨m0.m,0,none⟩),.pointer (some ⟨z.m,0,none⟩)] 135 (0,0))):=hid (by rw[hw2,<-hs1 (.cells #[.pointer none,.pointer none] 135)];exact za1 _ _);have hlt:∀x∈blks (P++a::m0::M),x<w.heap.size:=h.mlt;have jl:Ch w2 c o T cs (P++a::m0::M):=h.move (λx hx=>hb2 x (by rcases List.mem_cons.1 hx with rfl|hx;exact hcl;exact hlt x hx))
 have hsp:P++a::m0::M=(P++[a])++(m0::M):=by simp
 have hbs:blks (P++a::m0::M)=blks (P++[a])++blks (m0::M):=by rw[hsp,zac]
 have hnd:=h.nodup;rw[hbs] at hnd;have fq:=List.nodup_append.1 hnd;have hcn:=h.out;rw[hbs,Qbh,not_or] at hcn;have bg:=jl.seg;rw[hsp,seg_append] at bg;have kr:=hid bg.2;have hJ:=hid (zf2 c o T cs _ _ (P++[a]) [] none none (hd (m0::M) none) none w2 bg.1 trivial (by rw[Qbk];exact fq.1) (by rw[Qbk];exact hcn.1) jl.hdr (λ_=>rfl) (λ_=>rfl));rw[zcp,Qbk,if_neg (by simp:¬(P++[a]=[])),if_pos rfl] at hJ;have jy:Hid (w.heap.size+1 ∉ c::blks (P++[a])):=hid (λhm=>by
  rcases List.mem_cons.1 hm with hm|hm
  ·omega
  ·have:=hlt _ (by rw[hbs];exact List.mem_append_left _ hm);omega)
 have gy:Hid (w.heap.size ∉ c::blks (P++[a])):=hid (λhm=>by
  rcases List.mem_cons.1 hm with hm|hm
  ·omega
  ·have:=hlt _ (by rw[hbs];exact List.mem_append_left _ hm);omega)
 have ny:Hid (∀e∈m0::M,e.m<w2.heap.size):=hid (λe he=>by have:=hlt e.m (by rw[hbs];exact List.mem_append_right _ (List.mem_map.2 ⟨e,he,rfl⟩));omega);have lg:Hid (∀e∈m0::M,e.m ∉ c::blks (P++[a])):=hid (λe he hm=>by
  have pq:e.m∈blks (m0::M):=List.mem_map.2 ⟨e,he,rfl⟩;rcases List.mem_cons.1 hm with hm|hm
  ·exact hcn.2 (hm▸pq)
  ·exact fq.2.2 e.m hm e.m pq rfl)
 have jh:Hid (hd (P++a::m0::M) none=hd (P++[a]) none):=hid (by rw[zd8,zd8];rfl);have dx:=hid kg;have jq:=hid hs2;have lq:=hid hw2;have dh:=hid fq;have jw:=hid hcn;have hf2:Hid (Fr (c::blks (P++a::m0::M)) w w2):=hid (by rw[hw2];exact(((Fr.refl _ w).alloc _).alloc _).drew);have tq:z.m<w.heap.size:=hlt z.m (by rw[hbs];exact List.mem_append_right _ (List.mem_map.2 ⟨z,by rw[kg];simp,rfl⟩));have qg:m0.m<w.heap.size:=hlt m0.m (by simp[blks]);have hz0:¬z.m=w.heap.size:=by omega
 have hz1:¬z.m=w.heap.size+1:=by omega
 have mq:¬m0.m=w.heap.size:=by omega
 have qh:¬m0.m=w.heap.size+1:=by omega
 have qj:=hid hlz;rw[hlz];clear hs1 hs2 hb2 hlt jl hnd fq hcn bg hw2 kg hlz gq hseg hA;go_enter func238,ntmps238;go_wp2_with fail
 go_region
 all_goals go_wp2_with fail
 rw[<-lq.out];refine hJ.out.mono ?_;rintro e1 w3⟨rfl,hs3,hh3,hf3,hz3⟩;have ng:=(hf3.block (w.heap.size+1) (by have:=jq.out;omega) jy.out).trans qy.out;have jk:=(hf3.block w.heap.size (by have:=jq.out;omega) gy.out).trans qz.out;have n0:w3.cell? ⟨w.heap.size+1,0,none⟩=some (.pointer (some ⟨m0.m,0,none⟩)):=za0 ng 0 _ rfl;have n1:w3.cell? ⟨w.heap.size+1,1,none⟩=some (.pointer (some ⟨z.m,0,none⟩)):=za0 ng 1 _ rfl;have jm:=kr.out.move (λe he=>hf3.block e.m (ny.out e he) (lg.out e he));obtain⟨ma,mb,hm0⟩:=jm.get m0 (by simp);obtain⟨za,zb,hzb⟩:=jm.get z (by rw[dx.out];simp);have m8:w3.cell? ⟨m0.m,8,none⟩=some (.pointer ma):=za0 hm0 8 _ rfl;have mf:=za7 hm0;have z9:w3.cell? ⟨z.m,9,none⟩=some (.pointer zb):=za0 hzb 9 _ rfl;have zf:=za7 hzb;have r0:w3.cell? ⟨w.heap.size,0,none⟩=some (.pointer none):=za0 jk 0 _ rfl;have r1:w3.cell? ⟨w.heap.size,1,none⟩=some (.pointer none):=za0 jk 1 _ rfl;have rf:=za7 jk;have hall:=hid (And.intro hs3 (And.intro hh3 (And.intro hf3 (And.intro jm (And.intro jk hz3)))));clear hs3 hh3 hf3 hz3 ng jk jm hm0 hzb;go_wp2_with fail
 go_region
 go_wp2;have hne0:¬w.heap.size=m0.m:=λe=>mq e.symm;have hne1:¬w.heap.size=z.m:=λe=>hz0 e.symm;obtain⟨hs3,hh3,hf3,jm,jk,hzz⟩:=hall.out;have jg:(blks (m0::M)).Nodup:=dh.out.2.1;have mh:m0.m ∉ blks M:=(List.nodup_cons.1 (show (m0.m::blks M).Nodup from jg)).1;have hzn:z.m ∉ blks M0:=by
  rw[dx.out,zac] at jg;intro hm;exact(List.nodup_append.1 jg).2.2 z.m hm z.m (by simp[blks]) rfl
 have g1:=jm.zjn mh none;rw[dx.out] at g1;have g2:=g1.zhk hzn none;rw[<-dx.out] at g2;have jd:z.m∈blks (m0::M):=by rw[dx.out];simp[blks]
 have dw:m0.m∈blks (m0::M):=by simp[blks]
 have hdj:∀x∈blks (m0::M),x ∉ blks (P++[a])/\x≠c:=λx hx=>⟨λhm=>dh.out.2.2 x hm x hx rfl,λe=>jw.out.2 (e▸hx)⟩;have qb:w.heap.size ∉ blks (m0::M):=λhm=>by
  obtain⟨e,he,hem⟩:=List.mem_map.1 hm;have h1:=h.mlt e.m (by rw[hbs];exact List.mem_append_right _ (List.mem_map.2 ⟨e,he,rfl⟩));omega
 have pz:w.heap.size ∉ blks (P++[a]):=λhm=>gy.out (Qo _ hm);have hcR:c≠w.heap.size:=hcl0;have s1:=((hs3.zan ⟨m0.m,8,none⟩ (hdj _ dw).1 (.pointer none)).zan ⟨z.m,9,none⟩ (hdj _ jd).1 (.pointer none));have t1:=((hh3.other ⟨m0.m,8,none⟩ (hdj _ dw).2 (.pointer none)).other ⟨z.m,9,none⟩ (hdj _ jd).2 (.pointer none));have r1:=zan (zan jk ⟨m0.m,8,none⟩ hne0 (.pointer none)) ⟨z.m,9,none⟩ hne1 (.pointer none);have r2:=za3 (za3 (cs:=[.pointer none,.pointer none]) r1 0 (.pointer (some ⟨m0.m,0,none⟩))) 1 (.pointer (some ⟨z.m,0,none⟩));have y0:=za0 r2 0 _ rfl;have y1:=za0 r2 1 _ rfl;refine bodyPost_ret (v:=.agg #[.pointer (some ⟨m0.m,0,none⟩),.pointer (some ⟨z.m,0,none⟩)]) (by simp[results,results238,go_sem,y0,y1]) rfl ⟨rfl,⟨?_,?_,dh.out.1,jw.out.1⟩,?_,?_⟩
 ·exact((s1.zan ⟨w.heap.size,0,none⟩ pz _).zan ⟨w.heap.size,1,none⟩ pz _).move (λ_ _=>rfl)
 ·rw[zcp,<-jh.out];exact(t1.other ⟨w.heap.size,0,none⟩ (λe=>hcR e.symm) _).other ⟨w.heap.size,1,none⟩ (λe=>hcR e.symm) _
 ·exact((g2.zan ⟨w.heap.size,0,none⟩ qb _).zan ⟨w.heap.size,1,none⟩ qb _).move (λ_ _=>rfl)
 ·have hl:∀x∈c::blks (P++[a]),x∈c::blks (P++a::m0::M)\/w.heap.size<=x:=by
   intro x hx;rw[hbs];simp only[List.mem_cons,Qbh] at hx ⊢;rcases hx with hx|hx
   ·exact .inl (.inl hx)
   ·exact .inl (.inr (.inl hx))
  have hin:∀x∈blks (m0::M),x∈c::blks (P++a::m0::M):=λx hx=>Qo _ (by rw[hbs];exact List.mem_append_right _ hx);exact(((((hf2.out.trans hf3 hl).setCell ⟨m0.m,8,none⟩ (.inl (hin _ dw)) _).setCell ⟨z.m,9,none⟩ (.inl (hin _ jd)) _).setCell ⟨w.heap.size,0,none⟩ (.inr (Qc _)) _).setCell ⟨w.heap.size,1,none⟩ (.inr (Qc _)) _).drew
end Go.Proofs.YtlojgpkajkedeaaGreatDoor
