import Derived.Test.YtlojgpkajkedeaaGreatDoorMW7
import Derived.WalkKit
import Derived.WalkSpells
import Derived.WalkLawsBesides
import Derived.WalkMore
import Derived.ScopeJumps
import Derived.Below
import Derived.RegionTactic
import Derived.Deep.DeepCutAuto
import Derived.Deep.RegionHeld3
import Derived.LaidEql
namespace Go.Proofs.YtlojgpkajkedeaaGreatDoor
open Go.RowKit
set_option maxHeartbeats 1000000 in
theorem zlc (c o:Nat) (v:Value) (w:World) (h0:w.cell? ⟨c,o,none⟩=some v) (hv:∃ a,v = .pointer a) :
  Calls Tryz.prog 109 #[.pointer (some ⟨c,o,none⟩)] w fun e w'=>e = .returned v∧w=w':=by
 obtain ⟨a,rfl⟩:=hv
 go_enter Tryz.func109,Tryz.ntmps109
 go_wp2
 go_ret
 exact ⟨rfl,rfl⟩
set_option maxHeartbeats 1000000 in
theorem zj6 (m:Nat) (v:Value) (w:World) (h0:w.cell? ⟨m,9,none⟩=some v) (hv:∃ a,v = .pointer a) :
  Calls Tryz.prog 110 #[.pointer (some ⟨m,0,none⟩)] w fun e w'=>e = .returned v∧w=w':=by
 obtain ⟨a,rfl⟩:=hv
 go_enter Tryz.func110,Tryz.ntmps110
 go_wp2
 go_ret
 exact ⟨rfl,rfl⟩
set_option maxHeartbeats 1000000 in
theorem zt8 (c o m:Nat) (w:World) (hne:c≠m) (h0:∃ v,w.cell? ⟨c,o,none⟩=some v) (f0:w.frozen? ⟨c,o,none⟩=false) (h1:∃ v,w.cell? ⟨m,8,none⟩=some v) (f1:w.frozen? ⟨m,8,none⟩=false) :
  Calls Tryz.prog 230 #[.pointer (some ⟨c,o,none⟩),.pointer none,.pointer (some ⟨m,0,none⟩)] w fun e w'=>e = .returned (.tuple #[])∧(w.setCell ⟨c,o,none⟩ (.pointer (some ⟨m,0,none⟩))).setCell ⟨m,8,none⟩ (.pointer none)=w':=by
 obtain ⟨v0,h0⟩:=h0
 obtain ⟨v1,h1⟩:=h1
 have hne':m≠c:=fun h=>hne h.symm
 go_enter Tryz.func230,Tryz.ntmps230
 go_wp2
 go_end0
 exact ⟨rfl,rfl⟩
set_option maxHeartbeats 1000000 in
theorem zv4 (c o m:Nat) (w:World) (hne:c≠m) (h0:∃ v,w.cell? ⟨c,o+1,none⟩=some v) (f0:w.frozen? ⟨c,o+1,none⟩=false) (h1:∃ v,w.cell? ⟨m,9,none⟩=some v) (f1:w.frozen? ⟨m,9,none⟩=false) :
  Calls Tryz.prog 230 #[.pointer (some ⟨c,o,none⟩),.pointer (some ⟨m,0,none⟩),.pointer none] w fun e w'=>e = .returned (.tuple #[])∧(w.setCell ⟨m,9,none⟩ (.pointer none)).setCell ⟨c,o+1,none⟩ (.pointer (some ⟨m,0,none⟩))=w':=by
 obtain ⟨v0,h0⟩:=h0
 obtain ⟨v1,h1⟩:=h1
 have hne':m≠c:=fun h=>hne h.symm
 go_enter Tryz.func230,Tryz.ntmps230
 go_wp2
 go_end0
 exact ⟨rfl,rfl⟩
inductive Pt where
 | mk (kind:Int) (info text:List UInt8) (kids:List Pt) (rs:Nat) (ro rc:Bool)
def Pt.kind:Pt→Int | .mk k _ _ _ _ _ _=>k
def Pt.info:Pt→List UInt8 | .mk _ i _ _ _ _ _=>i
def Pt.text:Pt→List UInt8 | .mk _ _ t _ _ _ _=>t
def Pt.kids:Pt→List Pt | .mk _ _ _ k _ _ _=>k
def Pt.rs:Pt→Nat | .mk _ _ _ _ z _ _=>z
def Pt.ro:Pt→Bool | .mk _ _ _ _ _ o _=>o
def Pt.rc:Pt→Bool | .mk _ _ _ _ _ _ c=>c
def Pt.za4 (p:Pt) (t:List UInt8):Pt:=.mk p.kind p.info t p.kids p.rs p.ro p.rc
structure Mem where
 m:Nat
 p:Pt
 kf:Option Addr
 kl:Option Addr
abbrev Mem.ad (e:Mem):Addr:=⟨e.m,0,none⟩
def zd2 (e:Mem) (ah be:Option Addr):List Value:=[.int .i64 e.p.kind,.string (S.B e.p.info),.string (S.B e.p.text),.pointer e.kf,.pointer e.kl,.int .i64 (e.p.rs:Nat),.bool e.p.ro,.bool e.p.rc,.pointer ah,.pointer be]
inductive KRep (w:World) (A:Nat→Prop):Option Addr→List Pt→Prop
 | nil:KRep w A none []
 | cons (e:Mem) (ah be:Option Addr) (r:List Pt) (ha:A e.m) (hb:w.heap[e.m]?=some (.cells (zd2 e ah be).toArray 179 (0,0)))
   (hk:KRep w A e.kf e.p.kids) (hr:KRep w A be r):KRep w A (some e.ad) (e.p::r)
theorem KRep.move {w w':World} {A A':Nat→Prop} {a:Option Addr} {ps:List Pt} (h:KRep w A a ps) (hA:∀ b,A b→A' b) (hw:∀ b,A b→w'.heap[b]?=w.heap[b]?):KRep w' A' a ps:=by
 induction h with
 | nil=>exact .nil
 | cons e ah be r ha hb hk hr ih1 ih2=>exact .cons e ah be r (hA _ ha) (by rw[hw _ ha];exact hb) ih1 ih2
def hd (l:List Mem) (be:Option Addr):Option Addr:=match l with
 | []=>be
 | e::_=>some e.ad
def lst:List Mem→Option Addr→Option Addr
 | [],ah=>ah
 | e::r,_=>lst r (some e.ad)
def Seg (w:World):Option Addr→List Mem→Option Addr→Prop
 | _,[],_=>True
 | ah,e::r,be=>w.heap[e.m]?=some (.cells (zd2 e ah (hd r be)).toArray 179 (0,0))∧Seg w (some e.ad) r be
theorem zd3 (l1 l2:List Mem) (be:Option Addr):hd (l1++l2) be=hd l1 (hd l2 be):=by cases l1 <;> rfl
theorem zc0 (l1 l2:List Mem) (ah:Option Addr):lst (l1++l2) ah=lst l2 (lst l1 ah):=by
 induction l1 generalizing ah with
 | nil=>rfl
 | cons e r ih=>exact ih _
theorem seg_append (w:World) (l1 l2:List Mem) (ah be:Option Addr):Seg w ah (l1++l2) be↔Seg w ah l1 (hd l2 be)∧Seg w (lst l1 ah) l2 be:=by
 induction l1 generalizing ah with
 | nil=>simp[Seg,lst]
 | cons e r ih=>
  simp only[List.cons_append,Seg,lst,zd3,ih]
  exact and_assoc.symm
theorem Seg.move {w w':World} {l:List Mem} {ah be:Option Addr} (h:Seg w ah l be) (hw:∀ e∈l,w'.heap[e.m]?=w.heap[e.m]?):Seg w' ah l be:=by
 induction l generalizing ah with
 | nil=>trivial
 | cons e r ih=>exact ⟨by rw[hw e (by simp)];exact h.1,ih h.2 (fun x hx=>hw x (by simp[hx]))⟩
theorem Seg.get {w:World} {l:List Mem} {ah be:Option Addr} (h:Seg w ah l be) (e:Mem) (he:e∈l):∃ a b,w.heap[e.m]?=some (.cells (zd2 e a b).toArray 179 (0,0)):=by
 induction l generalizing ah with
 | nil=>simp at he
 | cons x r ih=>
  simp at he
  rcases he with rfl|he
  ·exact ⟨_,_,h.1⟩
  ·exact ih h.2 he
theorem Seg.lt {w:World} {l:List Mem} {ah be:Option Addr} (h:Seg w ah l be) (e:Mem) (he:e∈l):e.m<w.heap.size:=by
 obtain ⟨a,b,hb⟩:=h.get e he
 exact (Array.getElem?_eq_some_iff.1 hb).1
def blks (l:List Mem):List Nat:=l.map Mem.m
theorem Seg.zan {w:World} {l:List Mem} {ah be:Option Addr} (h:Seg w ah l be) (a:Addr) (ha:a.block ∉ blks l) (u:Value):Seg (w.setCell a u) ah l be:=
 h.move (fun e he=>Below.heap_setCell _ _ _ _ (fun x=>ha (by rw[← x];exact List.mem_map.2 ⟨e,he,rfl⟩)))
theorem Seg.zh4 {w:World} {l:List Mem} {e:Mem} {ah be:Option Addr} (h:Seg w ah (l++[e]) be) (hn:e.m ∉ blks l) (be':Option Addr):Seg (w.setCell ⟨e.m,9,none⟩ (.pointer be')) ah (l++[e]) be':=by
 rw[seg_append] at h ⊢
 exact ⟨h.1.zan _ hn _,za3 h.2.1 9 _,trivial⟩
theorem Seg.zir {w:World} {r:List Mem} {e:Mem} {ah be:Option Addr} (h:Seg w ah (e::r) be) (hn:e.m ∉ blks r) (ah':Option Addr):Seg (w.setCell ⟨e.m,8,none⟩ (.pointer ah')) ah' (e::r) be:=
 ⟨za3 h.1 8 _,h.2.zan _ hn _⟩
theorem Seg.cells {w:World} {r:List Mem} {e:Mem} {ah be:Option Addr} (h:Seg w ah (e::r) be):w.heap[e.m]?=some (.cells (zd2 e ah (hd r be)).toArray 179 (0,0)):=h.1
set_option maxHeartbeats 1000000 in
theorem zq5 (m:Nat) (v:Option Addr) (w:World) (h0:w.cell? ⟨m,8,none⟩=some (.pointer v)) :
  Calls Tryz.prog 242 #[.pointer (some ⟨m,0,none⟩)] w fun e w'=>e = .returned (.pointer v)∧w=w':=by
 go_enter Tryz.func242,Tryz.ntmps242
 go_wp2
 go_ret
 exact ⟨rfl,rfl⟩
set_option maxHeartbeats 1000000 in
theorem zw5 (c o a m:Nat) (w:World) (hne:a≠m) (h0:∃ v,w.cell? ⟨a,9,none⟩=some v) (f0:w.frozen? ⟨a,9,none⟩=false) (h1:∃ v,w.cell? ⟨m,8,none⟩=some v) (f1:w.frozen? ⟨m,8,none⟩=false) :
  Calls Tryz.prog 230 #[.pointer (some ⟨c,o,none⟩),.pointer (some ⟨a,0,none⟩),.pointer (some ⟨m,0,none⟩)] w fun e w'=>e = .returned (.tuple #[])∧(w.setCell ⟨a,9,none⟩ (.pointer (some ⟨m,0,none⟩))).setCell ⟨m,8,none⟩ (.pointer (some ⟨a,0,none⟩))=w':=by
 obtain ⟨v0,h0⟩:=h0
 obtain ⟨v1,h1⟩:=h1
 have hne':m≠a:=fun h=>hne h.symm
 go_enter Tryz.func230,Tryz.ntmps230
 go_wp2
 go_end0
 exact ⟨rfl,rfl⟩
set_option maxHeartbeats 1000000 in
theorem join_none (c o:Nat) (w:World) (h0:∃ v,w.cell? ⟨c,o,none⟩=some v) (f0:w.frozen? ⟨c,o,none⟩=false) (h1:∃ v,w.cell? ⟨c,o+1,none⟩=some v) (f1:w.frozen? ⟨c,o+1,none⟩=false) :
  Calls Tryz.prog 230 #[.pointer (some ⟨c,o,none⟩),.pointer none,.pointer none] w fun e w'=>e = .returned (.tuple #[])∧(w.setCell ⟨c,o,none⟩ (.pointer none)).setCell ⟨c,o+1,none⟩ (.pointer none)=w':=by
 obtain ⟨v0,h0⟩:=h0
 obtain ⟨v1,h1⟩:=h1
 go_enter Tryz.func230,Tryz.ntmps230
 go_wp2
 go_end0
 exact ⟨rfl,rfl⟩
structure Fr (L:List Nat) (w w':World):Prop where
 os:w'.os=w.os
 tape:w'.tape=w.tape
 output:w'.output=w.output
 size:w.heap.size≤w'.heap.size
 block:∀ k,k<w.heap.size→k ∉ L→w'.heap[k]?=w.heap[k]?
theorem Fr.refl (L:List Nat) (w:World):Fr L w w:=⟨rfl,rfl,rfl,Nat.le_refl _,fun _ _ _=>rfl⟩
theorem Fr.trans {L L':List Nat} {a b c:World} (h:Fr L a b) (k:Fr L' b c) (hl:∀ x∈L',x∈L∨a.heap.size≤x):Fr L a c:=
 ⟨k.os.trans h.os,k.tape.trans h.tape,k.output.trans h.output,Nat.le_trans h.size k.size,fun x hx hn=>by
  rw[k.block x (Nat.lt_of_lt_of_le hx h.size) (fun e=>by rcases hl x e with h1|h1;exact hn h1;omega),h.block x hx hn]⟩
theorem Fr.setCell {L:List Nat} {a w:World} (h:Fr L a w) (p:Addr) (hp:p.block∈L∨a.heap.size≤p.block) (u:Value):Fr L a (w.setCell p u):=
 ⟨h.os,h.tape,h.output,by have:=h.size;simpa [World.setCell] using this,fun x hx hn=>by
  rw[Below.heap_setCell _ _ _ _ (fun e=>by rcases hp with h1|h1;exact hn (e ▸ h1);omega),h.block x hx hn]⟩
theorem Fr.alloc {L:List Nat} {a w:World} (h:Fr L a w) (o:Obj):Fr L a (w.alloc o):=
 ⟨h.os,h.tape,h.output,by have:=h.size;simp;omega,fun x hx hn=>by
  rw[Below.heap_alloc _ _ _ (Nat.lt_of_lt_of_le hx h.size),h.block x hx hn]⟩
theorem Fr.drew {L:List Nat} {a w:World} (h:Fr L a w):Fr L a w.drew:=⟨h.os,h.tape,h.output,h.size,h.block⟩
theorem Fr.zhq {L:List Nat} {w w':World} (h:Below w.heap.size w w'):Fr L w w':=⟨h.os,h.tape,h.output,h.size,fun x hx _=>h.block x hx⟩
theorem Fr.below {L:List Nat} {w w':World} {B:Nat} (h:Fr L w w') (hB:B≤w.heap.size) (hl:∀ x∈L,B≤x):Below B w w':=⟨h.os,h.tape,h.output,h.size,fun x hx=>h.block x (by omega) (fun e=>by have:=hl x e;omega)⟩
def zlq (cs:List Value) (o:Nat) (f l:Option Addr):List Value:=(cs.set o (.pointer f)).set (o+1) (.pointer l)
def Hdr (w:World) (c o T:Nat) (cs:List Value) (f l:Option Addr):Prop:=w.heap[c]?=some (.cells (zlq cs o f l).toArray T (0,0))∧o+1<cs.length
theorem Hdr.first {w:World} {c o T:Nat} {cs:List Value} {f l:Option Addr} (h:Hdr w c o T cs f l) (f':Option Addr):Hdr (w.setCell ⟨c,o,none⟩ (.pointer f')) c o T cs f' l:=by
 refine ⟨?_,h.2⟩
 have:=za3 h.1 o (.pointer f')
 rw[this];congr 2
 unfold zlq
 rw[List.set_comm _ _ (by omega),List.set_set]
theorem Hdr.last {w:World} {c o T:Nat} {cs:List Value} {f l:Option Addr} (h:Hdr w c o T cs f l) (l':Option Addr):Hdr (w.setCell ⟨c,o+1,none⟩ (.pointer l')) c o T cs f l':=by
 refine ⟨?_,h.2⟩
 have:=za3 h.1 (o+1) (.pointer l')
 rw[this];congr 2
 unfold zlq
 rw[List.set_set]
theorem Hdr.other {w:World} {c o T:Nat} {cs:List Value} {f l:Option Addr} (h:Hdr w c o T cs f l) (a:Addr) (ha:a.block≠c) (u:Value):Hdr (w.setCell a u) c o T cs f l:=
 ⟨by rw[Below.heap_setCell _ _ _ _ (fun e=>ha e.symm)];exact h.1,h.2⟩
theorem Hdr.zqh {w:World} {c o T:Nat} {cs:List Value} {f l:Option Addr} (h:Hdr w c o T cs f l):w.cell? ⟨c,o,none⟩=some (.pointer f):=
 za0 h.1 o _ (by unfold zlq;rw[List.getElem?_toArray,List.getElem?_set_ne (by omega),List.getElem?_set_self (by have:=h.2;omega)])
theorem Hdr.cellL {w:World} {c o T:Nat} {cs:List Value} {f l:Option Addr} (h:Hdr w c o T cs f l):w.cell? ⟨c,o+1,none⟩=some (.pointer l):=
 za0 h.1 (o+1) _ (by unfold zlq;rw[List.getElem?_toArray,List.getElem?_set_self (by rw[List.length_set];exact h.2)])
theorem Hdr.free {w:World} {c o T:Nat} {cs:List Value} {f l:Option Addr} (h:Hdr w c o T cs f l) (i:Nat):w.frozen? ⟨c,i,none⟩=false:=za7 h.1 i
theorem Hdr.move {w w':World} {c o T:Nat} {cs:List Value} {f l:Option Addr} (h:Hdr w c o T cs f l) (hw:w'.heap[c]?=w.heap[c]?):Hdr w' c o T cs f l:=⟨by rw[hw];exact h.1,h.2⟩
theorem zcl (l:List Mem) (e:Mem) (ah:Option Addr):lst (l++[e]) ah=some e.ad:=by rw[zc0];rfl
theorem zlv (l:List Mem) (h:l≠[]):∃ l0 e,l=l0++[e]:=⟨l.dropLast,l.getLast h,(List.dropLast_concat_getLast h).symm⟩
theorem zf2 (c o T:Nat) (cs:List Value) (f l:Option Addr) (P Q:List Mem) (ah be x y:Option Addr) (w:World) (hP:Seg w ah P x) (hQ:Seg w y Q be) (hn:(blks (P++Q)).Nodup) (hc:c ∉ blks (P++Q)) (hH:Hdr w c o T cs f l) (hah:P=[]→ah=none) (hbe:Q=[]→be=none) :
  Calls Tryz.prog 230 #[.pointer (some ⟨c,o,none⟩),.pointer (lst P none),.pointer (hd Q none)] w fun e w'=>e = .returned (.tuple #[])∧Seg w' ah (P++Q) be∧Hdr w' c o T cs (if P=[] then hd Q none else f) (if Q=[] then lst P none else l)∧Fr (c::blks (P++Q)) w w'∧w.heap.size=w'.heap.size:=by
 have hsz:∀ (a b:Addr) (u v:Value),w.heap.size=((w.setCell a u).setCell b v).heap.size:=fun a b u v=>by simp[World.setCell]
 by_cases hp:P=[]
 ·subst hp
  cases Q with
  | nil=>
   refine (join_none c o w ⟨_,hH.zqh⟩ (hH.free _) ⟨_,hH.cellL⟩ (hH.free _)).mono ?_
   rintro e w' ⟨rfl,rfl⟩
   exact ⟨rfl,trivial,(hH.first none).last none,((Fr.refl _ w).setCell _ (.inl (by simp)) _).setCell _ (.inl (by simp)) _,hsz _ _ _ _⟩
  | cons b Q0=>
   have hcb:c≠b.m:=fun e=>hc (by simp[blks,e])
   have hbn:b.m ∉ blks Q0:=by have:=List.nodup_cons.1 (show (b.m::blks Q0).Nodup from hn);exact this.1
   have hQb:=hQ.cells
   refine (zt8 c o b.m w hcb ⟨_,hH.zqh⟩ (hH.free _) ⟨_,za0 hQb 8 _ rfl⟩ (za7 hQb _)).mono ?_
   rintro e w' ⟨rfl,rfl⟩
   have h1:=hQ.zan ⟨c,o,none⟩ (by simpa using hc) (.pointer (some b.ad))
   rw[hah rfl]
   refine ⟨rfl,h1.zir hbn none,((hH.first _).other ⟨b.m,8,none⟩ (fun e=>hcb e.symm) _),((Fr.refl _ w).setCell _ (.inl (by simp)) _).setCell _ (.inl (by simp[blks])) _,hsz _ _ _ _⟩
 ·obtain ⟨P0,a,rfl⟩:=zlv P hp
  have hca:c≠a.m:=fun e=>hc (by simp[blks,e])
  have han:a.m ∉ blks P0:=by
   have h2:(blks P0++(a.m::blks Q)).Nodup:=by simpa [blks,List.append_assoc] using hn
   have h3:=List.nodup_append.1 h2
   intro hm;exact h3.2.2 a.m hm a.m (by simp) rfl
  have hPa:=((seg_append w P0 [a] ah x).1 hP).2.cells
  rw[zcl,if_neg hp]
  cases Q with
  | nil=>
   refine (zv4 c o a.m w hca ⟨_,hH.cellL⟩ (hH.free _) ⟨_,za0 hPa 9 _ rfl⟩ (za7 hPa _)).mono ?_
   rintro e w' ⟨rfl,rfl⟩
   rw[hbe rfl,List.append_nil]
   have h1:=hP.zh4 han none
   refine ⟨rfl,h1.zan _ (by simpa using hc) _,(hH.other ⟨a.m,9,none⟩ (fun e=>hca e.symm) _).last _,((Fr.refl _ w).setCell _ (.inl (by simp[blks])) _).setCell _ (.inl (by simp)) _,hsz _ _ _ _⟩
  | cons b Q0=>
   have hab:a.m≠b.m:=by
    have h2:(blks P0++(a.m::b.m::blks Q0)).Nodup:=by simpa [blks,List.append_assoc] using hn
    have h3:=(List.nodup_append.1 h2).2.1
    have:=(List.nodup_cons.1 h3).1
    intro e;exact this (by simp[e])
   have hdis:∀ z∈blks (P0++[a]),z ∉ blks (b::Q0):=by
    have h2:(blks (P0++[a])++blks (b::Q0)).Nodup:=by simpa [blks,List.append_assoc] using hn
    have h3:=(List.nodup_append.1 h2).2.2
    intro z h4 h5;exact h3 z h4 z h5 rfl
   have hbn:b.m ∉ blks Q0:=by
    have h2:(blks (P0++[a])++blks (b::Q0)).Nodup:=by simpa [blks,List.append_assoc] using hn
    exact (List.nodup_cons.1 (show (b.m::blks Q0).Nodup from (List.nodup_append.1 h2).2.1)).1
   have hcb:c≠b.m:=fun e=>hc (by simp[blks,e])
   have hQb:=hQ.cells
   refine (zw5 c o a.m b.m w hab ⟨_,za0 hPa 9 _ rfl⟩ (za7 hPa _) ⟨_,za0 hQb 8 _ rfl⟩ (za7 hQb _)).mono ?_
   rintro e w' ⟨rfl,rfl⟩
   have h1:=(hP.zh4 han (some b.ad)).zan ⟨b.m,8,none⟩ (fun hz=>hdis b.m hz (by simp[blks])) (.pointer (some a.ad))
   have h2:=(hQ.zan ⟨a.m,9,none⟩ (hdis a.m (by simp[blks])) (.pointer (some b.ad))).zir hbn (some a.ad)
   refine ⟨rfl,(seg_append _ _ _ _ _).2 ⟨h1,?_⟩,((hH.other ⟨a.m,9,none⟩ (fun e=>hca e.symm) _).other ⟨b.m,8,none⟩ (fun e=>hcb e.symm) _),((Fr.refl _ w).setCell _ (.inl (by simp[blks])) _).setCell _ (.inl (by simp[blks])) _,hsz _ _ _ _⟩
   rw[zcl];exact h2
structure Ch (w:World) (c o T:Nat) (cs:List Value) (l:List Mem):Prop where
 seg:Seg w none l none
 hdr:Hdr w c o T cs (hd l none) (lst l none)
 nodup:(blks l).Nodup
 out:c ∉ blks l
theorem Ch.lt {w:World} {c o T:Nat} {cs:List Value} {l:List Mem} (h:Ch w c o T cs l):c<w.heap.size:=(Array.getElem?_eq_some_iff.1 h.hdr.1).1
theorem Ch.mlt {w:World} {c o T:Nat} {cs:List Value} {l:List Mem} (h:Ch w c o T cs l) (x:Nat) (hx:x∈blks l):x<w.heap.size:=by
 obtain ⟨e,he,rfl⟩:=List.mem_map.1 hx;exact h.seg.lt e he
theorem Ch.move {w w':World} {c o T:Nat} {cs:List Value} {l:List Mem} (h:Ch w c o T cs l) (hw:∀ x∈c::blks l,w'.heap[x]?=w.heap[x]?):Ch w' c o T cs l:=
 ⟨h.seg.move (fun e he=>hw e.m (by simp[blks];exact .inr ⟨e,he,rfl⟩)),h.hdr.move (hw c (by simp)),h.nodup,h.out⟩
def zhc (p:Pt) (kf kl:Option Addr):Value:=.agg #[.int .i64 p.kind,.string (S.B p.info),.string (S.B p.text),.pointer kf,.pointer kl,.int .i64 (p.rs:Nat),.bool p.ro,.bool p.rc]
set_option maxRecDepth 100000 in
set_option maxHeartbeats 2000000 in
theorem zjf (c o T:Nat) (cs:List Value) (l:List Mem) (p:Pt) (kf kl:Option Addr) (w:World) (h:Ch w c o T cs l) :
  Calls Tryz.prog 196 #[.pointer (some ⟨c,o,none⟩),zhc p kf kl] w fun e w'=>
   e = .returned (.pointer (some ⟨w.heap.size+1,0,none⟩))∧Ch w' c o T cs (l++[⟨w.heap.size+1,p,kf,kl⟩])∧Fr (c::blks l) w w'∧w.heap.size+2=w'.heap.size:=by
 have hcl:=h.lt
 obtain ⟨e,he⟩:∃ e:Mem,e=⟨w.heap.size+1,p,kf,kl⟩:=⟨_,rfl⟩
 have hem:e.m=w.heap.size+1:=by rw[he]
 obtain ⟨w2,hw2⟩:∃ w2,w2=(w.alloc (.cells #[.int .i64 p.kind,.string (S.B p.info),.string (S.B p.text),.pointer kf,.pointer kl,.int .i64 (p.rs:Nat),.bool p.ro,.bool p.rc] 177)).alloc (.cells #[.int .i64 p.kind,.string (S.B p.info),.string (S.B p.text),.pointer kf,.pointer kl,.int .i64 (p.rs:Nat),.bool p.ro,.bool p.rc,.pointer none,.pointer none] 179):=⟨_,rfl⟩
 have hs1:∀ ob,(w.alloc ob).heap.size=w.heap.size+1:=by intro ob;simp
 have hs2:w2.heap.size=w.heap.size+2:=by rw[hw2];simp
 have hf2:Fr (c::blks l) w w2:=by rw[hw2];exact ((Fr.refl _ w).alloc _).alloc _
 have hb2:∀ x,x<w.heap.size→w2.heap[x]?=w.heap[x]?:=by
  intro x hx;rw[hw2,Below.heap_alloc _ _ _ (by rw[hs1];omega),Below.heap_alloc _ _ _ hx]
 have hCh2:Ch w2 c o T cs l:=h.move (fun x hx=>hb2 x (by simp at hx;rcases hx with rfl|hx;exact hcl;exact h.mlt x hx))
 have hE2:Seg w2 none [e] none:=⟨by rw[hem,he,hw2,← hs1];exact za1 _ _,trivial⟩
 have hfr:∀ x∈blks l,x≠e.m:=fun x hx=>by have:=h.mlt x hx;omega
 have hnd:(blks (l++[e])).Nodup:=by
  have:blks (l++[e])=blks l++[e.m]:=by simp[blks]
  rw[this,List.nodup_append]
  exact ⟨h.nodup,by simp,fun a ha b hb=>by simp at hb;subst hb;exact hfr a ha⟩
 have hcn:c ∉ blks (l++[e]):=by
  have:blks (l++[e])=blks l++[e.m]:=by simp[blks]
  rw[this,List.mem_append,not_or];exact ⟨h.out,by simp;omega⟩
 have hJ1:=hid (zf2 c o T cs _ _ l [e] none none none none w2 hCh2.seg hE2 hnd hcn hCh2.hdr (fun _=>rfl) (fun h=>by simp at h))
 have q1:=h.hdr.cellL
 have hcl0:¬ c=w.heap.size:=by omega
 have hcl1:¬ c=w.heap.size+1:=by omega
 have hde:hd [e] none=some (⟨w.heap.size+1,0,none⟩:Addr):=by show some (⟨e.m,0,none⟩:Addr)=_;rw[hem]
 rw[hde] at hJ1
 have hw2H:=hid hw2
 have hfirst:(if l=[] then (some (⟨w.heap.size+1,0,none⟩:Addr)) else hd l none)=hd (l++[e]) none:=by
  cases l with
  | nil=>simp[hd,Mem.ad,hem]
  | cons x r=>rfl
 rw[hfirst] at hJ1
 rw[if_neg (by simp:¬ ([e]=[]))] at hJ1
 have hJ2:=hid (fun (w3:World) (h1:Seg w3 none (l++[e]) none) (h2:Hdr w3 c o T cs (hd (l++[e]) none) (lst l none))=>zf2 c o T cs _ _ (l++[e]) [] none none none none w3 h1 trivial (by rw[List.append_nil];exact hnd) (by rw[List.append_nil];exact hcn) h2 (fun _=>rfl) (fun _=>rfl))
 rw[zcl] at hJ2
 have hne:¬ (l++[e]=[]):=by simp
 have hadd:e.ad=(⟨w.heap.size+1,0,none⟩:Addr):=by show (⟨e.m,0,none⟩:Addr)=_;rw[hem]
 simp only[List.append_nil,if_neg hne,hadd,if_pos] at hJ2
 have hblk:blks (l++[e])=blks l++[w.heap.size+1]:=by simp[blks,hem]
 rw[hblk] at hJ1 hJ2
 have heH:=hid he
 have hndH:=hid hnd
 have hcnH:=hid hcn
 have hf2H:=hid hf2
 have hs2H:=hid hs2
 clear hs1 hs2 hf2 hb2 hCh2 hE2 hfr hnd hcn hde hfirst hne hem hw2 he
 unfold zhc
 go_enter Tryz.func196,Tryz.ntmps196
 go_wp2_with fail
 rw[← hw2H.out]
 refine hJ1.out.mono ?_
 rintro e1 w3 ⟨rfl,hs3,hh3,hf3,hz3⟩
 have hJJ:=hid (hJ2.out w3 hs3 hh3)
 have hf3H:=hid hf3
 have hz3H:=hid hz3
 clear hs3 hh3 hf3 hz3
 go_wp2_with fail
 refine hJJ.out.mono ?_
 rintro e2 w4 ⟨rfl,hs4,hh4,hf4,hz4⟩
 have h4:=hid (And.intro hs4 (And.intro hh4 (And.intro hf4 hz4)))
 clear hs4 hh4 hf4 hz4
 go_wp2
 go_ret
 obtain ⟨hs4,hh4,hf4,hz4⟩:=h4.out
 rw[← heH.out]
 refine ⟨rfl,⟨hs4,?_,hndH.out,hcnH.out⟩,?_,?_⟩
 ·rw[zcl,hadd];exact hh4
 ·have hl:∀ x∈c::(blks l++[w.heap.size+1]),x∈c::blks l∨w.heap.size≤x:=by
   intro x hx;simp at hx ⊢;rcases hx with h|h|h
   ·exact .inl (.inl h)
   ·exact .inl (.inr h)
   ·exact .inr (by omega)
  exact (hf2H.out.trans hf3H.out hl).trans hf4 hl
 ·have:=hs2H.out;have:=hz3H.out;omega
theorem zab (l r:List Mem):blks (l++r)=blks l++blks r:=by simp[blks]
theorem zvc {P Q:List Nat} {a e:Nat} (h:(P++a::Q).Nodup) (he:∀ x∈P++a::Q,x≠e):(P++a::e::Q).Nodup:=by
 have h2:=List.nodup_append.1 h
 have h3:=List.nodup_cons.1 h2.2.1
 rw[List.nodup_append]
 refine ⟨h2.1,?_,?_⟩
 ·rw[List.nodup_cons,List.nodup_cons]
  refine ⟨?_,?_,h3.2⟩
  ·intro hm;simp at hm;rcases hm with hm|hm
   ·exact he a (by simp) hm
   ·exact h3.1 hm
  ·intro hm;exact he e (by simp[hm]) rfl
 ·intro x hx y hy e1
  simp at hy
  rcases hy with hy|hy|hy
  ·exact h2.2.2 x hx a (by simp) (e1.trans hy)
  ·exact he x (by simp[hx]) (e1.trans hy)
  ·exact h2.2.2 x hx y (by simp[hy]) e1
set_option maxRecDepth 100000 in
set_option maxHeartbeats 2000000 in
theorem zja (c o T:Nat) (cs:List Value) (P Q:List Mem) (a:Mem) (p:Pt) (kf kl:Option Addr) (w:World) (h:Ch w c o T cs (P++a::Q)) :
  Calls Tryz.prog 244 #[.pointer (some ⟨c,o,none⟩),.pointer (some ⟨a.m,0,none⟩),zhc p kf kl] w fun e w'=>
   e = .returned (.pointer (some ⟨w.heap.size+1,0,none⟩))∧Ch w' c o T cs (P++a :: ⟨w.heap.size+1,p,kf,kl⟩ :: Q)∧Fr (c::blks (P++a::Q)) w w'∧w.heap.size+2=w'.heap.size:=by
 have hcl:=h.lt
 have hal:a.m<w.heap.size:=h.mlt a.m (by simp[blks])
 obtain ⟨e,he⟩:∃ e:Mem,e=⟨w.heap.size+1,p,kf,kl⟩:=⟨_,rfl⟩
 have hem:e.m=w.heap.size+1:=by rw[he]
 obtain ⟨w2,hw2⟩:∃ w2,w2=(w.alloc (.cells #[.int .i64 p.kind,.string (S.B p.info),.string (S.B p.text),.pointer kf,.pointer kl,.int .i64 (p.rs:Nat),.bool p.ro,.bool p.rc] 177)).alloc (.cells #[.int .i64 p.kind,.string (S.B p.info),.string (S.B p.text),.pointer kf,.pointer kl,.int .i64 (p.rs:Nat),.bool p.ro,.bool p.rc,.pointer none,.pointer none] 179):=⟨_,rfl⟩
 have hs1:∀ ob,(w.alloc ob).heap.size=w.heap.size+1:=by intro ob;simp
 have hs2:w2.heap.size=w.heap.size+2:=by rw[hw2];simp
 have hf2:Fr (c::blks (P++a::Q)) w w2:=by rw[hw2];exact ((Fr.refl _ w).alloc _).alloc _
 have hb2:∀ x,x<w.heap.size→w2.heap[x]?=w.heap[x]?:=by
  intro x hx;rw[hw2,Below.heap_alloc _ _ _ (by rw[hs1];omega),Below.heap_alloc _ _ _ hx]
 have hCh2:Ch w2 c o T cs (P++a::Q):=h.move (fun x hx=>hb2 x (by rcases List.mem_cons.1 hx with rfl|hx;exact hcl;exact h.mlt x hx))
 have hE2:Seg w2 none [e] none:=⟨by rw[hem,he,hw2,← hs1];exact za1 _ _,trivial⟩
 have hbk:blks (P++a::Q)=blks P++a.m::blks Q:=by simp[blks]
 have hbk2:blks (P++a::e::Q)=blks P++a.m::e.m::blks Q:=by simp[blks]
 have hfr:∀ x∈blks P++a.m::blks Q,x≠e.m:=fun x hx=>by have:=h.mlt x (by rw[hbk];exact hx);omega
 have hnd:(blks (P++a::e::Q)).Nodup:=by rw[hbk2];exact zvc (by rw[← hbk];exact h.nodup) hfr
 have hcn:c ∉ blks (P++a::e::Q):=by
  have h1:=h.out;rw[hbk] at h1;rw[hbk2]
  simp only[List.mem_append,List.mem_cons,not_or] at h1 ⊢
  exact ⟨h1.1,h1.2.1,by omega,h1.2.2⟩
 have hnd1:(blks ([e]++Q)).Nodup:=by
  have:=(List.nodup_append.1 (show (blks P++a.m::e.m::blks Q).Nodup by rw[← hbk2];exact hnd)).2.1
  exact (List.nodup_cons.1 this).2
 have hcn1:c ∉ blks ([e]++Q):=by
  intro hm;apply hcn;rw[hbk2];simp[blks] at hm ⊢;rcases hm with hm|hm
  ·exact .inr (.inr (.inl hm))
  ·exact .inr (.inr (.inr hm))
 have hsg:P++a::Q=(P++[a])++Q:=by simp
 have hseg2:=hCh2.seg
 rw[hsg,seg_append] at hseg2
 have hJ1:=hid (zf2 c o T cs _ _ [e] Q none none none (lst (P++[a]) none) w2 hE2 hseg2.2 hnd1 hcn1 hCh2.hdr (fun h=>by simp at h) (fun _=>rfl))
 have hle:lst [e] none=some (⟨w.heap.size+1,0,none⟩:Addr):=by show some (⟨e.m,0,none⟩:Addr)=_;rw[hem]
 rw[hle,if_neg (by simp:¬ ([e]=[]))] at hJ1
 have ha9:w.cell? ⟨a.m,9,none⟩=some (.pointer (hd Q none)):=by
  have hh:=h.seg;rw[hsg,seg_append,seg_append] at hh
  exact za0 hh.1.2.cells 9 _ rfl
 have hPA:=hid hseg2.1
 have hdis:∀ x∈P++[a],x.m ∉ c::blks ([e]++Q):=by
  intro x hx hm
  have hxb:x.m∈blks (P++[a]):=List.mem_map.2 ⟨x,hx,rfl⟩
  rcases List.mem_cons.1 hm with hm|hm
  ·apply hcn;rw[← hm,show P++a::e::Q=(P++[a])++([e]++Q) by simp,zab];exact List.mem_append_left _ hxb
  ·have h2:(blks (P++[a])++blks ([e]++Q)).Nodup:=by rw[← zab];simpa using hnd
   exact (List.nodup_append.1 h2).2.2 x.m hxb x.m hm rfl
 have hJ2:=hid (fun (w3:World) (lh:Option Addr) (h1:Seg w3 none (P++[a]) (hd Q none)) (h1':Seg w3 none ([e]++Q) none) (h2:Hdr w3 c o T cs (hd (P++a::Q) none) lh)=>zf2 c o T cs _ _ (P++[a]) ([e]++Q) none none (hd Q none) none w3 h1 h1' (by simpa using hnd) (by simpa using hcn) h2 (fun h=>by simp at h) (fun h=>by simp at h))
 rw[zcl] at hJ2
 have hde:hd ([e]++Q) none=some (⟨w.heap.size+1,0,none⟩:Addr):=by show some (⟨e.m,0,none⟩:Addr)=_;rw[hem]
 simp only[hde,if_neg (show ¬ (P++[a]=[]) by simp),if_neg (show ¬ ([e]++Q=[]) by simp)] at hJ2
 have heq:(P++[a])++([e]++Q)=P++a::e::Q:=by simp
 rw[heq] at hJ2
 have heH:=hid he
 have hemH:=hid hem
 have hndH:=hid hnd
 have hcnH:=hid hcn
 have hf2H:=hid hf2
 have hs2H:=hid hs2
 have hdisH:=hid hdis
 have hw2H:=hid hw2
 have hltP:Hid (∀ x∈P++[a],x.m<w2.heap.size):=hid (fun x hx=>by have:=h.mlt x.m (by rw[hsg,zab];exact List.mem_append_left _ (List.mem_map.2 ⟨x,hx,rfl⟩));omega)
 clear hs1 hs2 hf2 hb2 hCh2 hE2 hfr hnd hcn hde hle hem hw2 he hseg2 hnd1 hcn1 hdis
 have hac0:¬ a.m=w.heap.size:=by omega
 have hac1:¬ a.m=w.heap.size+1:=by omega
 unfold zhc
 go_enter Tryz.func244,Tryz.ntmps244
 go_wp2_with fail
 rw[← hw2H.out]
 refine hJ1.out.mono ?_
 rintro e1 w3 ⟨rfl,hs3,hh3,hf3,hz3⟩
 have hP3:Seg w3 none (P++[a]) (hd Q none):=hPA.out.move (fun x hx=>hf3.block x.m (hltP.out x hx) (hdisH.out x hx))
 have hJJ:=hid (hJ2.out w3 _ hP3 hs3 hh3)
 have hf3H:=hid hf3
 have hz3H:=hid hz3
 clear hs3 hh3 hf3 hz3 hP3
 go_wp2_with fail
 refine hJJ.out.mono ?_
 rintro e2 w4 ⟨rfl,hs4,hh4,hf4,hz4⟩
 have h4:=hid (And.intro hs4 (And.intro hh4 (And.intro hf4 hz4)))
 clear hs4 hh4 hf4 hz4
 go_wp2
 go_ret
 obtain ⟨hs4,hh4,hf4,hz4⟩:=h4.out
 rw[← heH.out]
 refine ⟨rfl,⟨hs4,?_,hndH.out,hcnH.out⟩,?_,?_⟩
 ·have e1:hd (P++a::e::Q) none=hd (P++a::Q) none:=by rw[zd3,zd3];rfl
  have e2:lst (P++a::e::Q) none=if Q=[] then some (⟨w.heap.size+1,0,none⟩:Addr) else lst (P++a::Q) none:=by
   rw[zc0,zc0]
   cases Q with
   | nil=>simp[lst,Mem.ad,hemH.out]
   | cons q r=>simp[lst]
  rw[e1,e2];exact hh4
 ·have hl1:∀ x∈c::blks ([e]++Q),x∈c::blks (P++a::Q)∨w.heap.size≤x:=by
   intro x hx;have:=hemH.out;simp[blks] at hx ⊢;rcases hx with h|h|⟨y,h,h'⟩
   ·exact .inl (.inl h)
   ·exact .inr (by omega)
   ·exact .inl (.inr (.inr (.inr ⟨y,h,h'⟩)))
  have hl2:∀ x∈c::blks (P++a::e::Q),x∈c::blks (P++a::Q)∨w.heap.size≤x:=by
   intro x hx;have:=hemH.out;simp[blks] at hx ⊢;rcases hx with h|⟨y,h,h'⟩|h|h|⟨y,h,h'⟩
   ·exact .inl (.inl h)
   ·exact .inl (.inr (.inl ⟨y,h,h'⟩))
   ·exact .inl (.inr (.inr (.inl h)))
   ·exact .inr (by omega)
   ·exact .inl (.inr (.inr (.inr ⟨y,h,h'⟩)))
  exact (hf2H.out.trans hf3H.out hl1).trans hf4 hl2
 ·have:=hs2H.out;have:=hz3H.out;omega
theorem zc8 (P Q:List Mem) (a:Mem):blks (P++a::Q)=blks P++a.m::blks Q:=by simp[blks]
theorem zpf {P Q:List Nat} {a:Nat} (h:(P++a::Q).Nodup):(P++Q).Nodup∧a ∉ P++Q:=by
 have h2:=List.nodup_append.1 h
 have h3:=List.nodup_cons.1 h2.2.1
 refine ⟨List.nodup_append.2 ⟨h2.1,h3.2,fun x hx y hy=>h2.2.2 x hx y (by simp[hy])⟩,?_⟩
 intro hm;rcases List.mem_append.1 hm with hm|hm
 ·exact h2.2.2 a hm a (by simp) rfl
 ·exact h3.1 hm
set_option maxRecDepth 100000 in
set_option maxHeartbeats 2000000 in
theorem zui (c o T:Nat) (cs:List Value) (P Q:List Mem) (a:Mem) (w:World) (h:Ch w c o T cs (P++a::Q)) :
  Calls Tryz.prog 209 #[.pointer (some ⟨c,o,none⟩),.pointer (some ⟨a.m,0,none⟩)] w fun e w'=>
   e = .returned (.tuple #[])∧Ch w' c o T cs (P++Q)∧Fr (c::blks (P++a::Q)) w w'∧w.heap.size=w'.heap.size:=by
 have hseg:=h.seg
 rw[seg_append] at hseg
 have hA:=hseg.2.cells
 have a8:w.cell? ⟨a.m,8,none⟩=some (.pointer (lst P none)):=za0 hA 8 _ rfl
 have a9:w.cell? ⟨a.m,9,none⟩=some (.pointer (hd Q none)):=za0 hA 9 _ rfl
 have hnn:=zpf (by rw[← zc8];exact h.nodup)
 have hcn:c ∉ blks (P++Q)∧c≠a.m:=by
  have h1:=h.out;rw[zc8] at h1;rw[zab]
  simp only[List.mem_append,List.mem_cons,not_or] at h1 ⊢
  exact ⟨⟨h1.1,h1.2.2⟩,h1.2.1⟩
 have hal:a.m<w.heap.size:=h.mlt a.m (by simp[blks])
 have hac:a.m ∉ c::blks (P++Q):=by
  rw[List.mem_cons,not_or];exact ⟨fun e=>hcn.2 e.symm,by rw[zab];exact hnn.2⟩
 have hJ:=hid (fun (wx:World) (hx:wx.heap=w.heap)=>zf2 c o T cs (hd (P++a::Q) none) (lst (P++a::Q) none) P Q none none (hd (a::Q) none) (some a.ad) wx (hseg.1.move (fun e _=>by rw[hx])) (hseg.2.2.move (fun e _=>by rw[hx])) (by rw[zab];exact hnn.1) hcn.1 (h.hdr.move (by rw[hx])) (fun _=>rfl) (fun _=>rfl))
 have e1:(if P=[] then hd Q none else hd (P++a::Q) none)=hd (P++Q) none:=by
  cases P with
  | nil=>rfl
  | cons x r=>rfl
 have e2:(if Q=[] then lst P none else lst (P++a::Q) none)=lst (P++Q) none:=by
  cases Q with
  | nil=>simp
  | cons x r=>rw[if_neg (by simp),zc0,zc0];rfl
 simp only[e1,e2] at hJ
 have hAH:=hid hA
 have hacH:=hid hac
 have hcnH:=hid hcn
 have hnnH:=hid hnn
 have hsizeH:=hid hal
 clear e1 e2 hseg hA hac hcn hnn
 go_enter Tryz.func209,Tryz.ntmps209
 go_wp2_with fail
 go_region_held3 (fun w'=>w'.cell? ⟨a.m,8,none⟩=some (.pointer (lst P none))∧w'.cell? ⟨a.m,9,none⟩=some (.pointer (hd Q none)))
  ((refine ⟨?_,?_⟩ <;> assumption))
  ((go_at_call 230;refine (hJ.out w.drew rfl).mono ?_;rintro e1 w1 ⟨rfl,hs1,hh1,hf1,hz1⟩;have hA1:=(hf1.block a.m hsizeH.out hacH.out).trans hAH.out;have k8:w1.cell? ⟨a.m,8,none⟩=some (.pointer (lst P none)):=za0 hA1 8 _ rfl;have k9:w1.cell? ⟨a.m,9,none⟩=some (.pointer (hd Q none)):=za0 hA1 9 _ rfl))
 have f1:=za7 hA1
 have hall:=hid (And.intro hs1 (And.intro hh1 (And.intro hf1 hz1)))
 clear hs1 hh1 hf1 hz1 hA1
 go_wp2
 go_end0
 obtain ⟨hs1,hh1,hf1,hz1⟩:=hall.out
 have hna:a.m ∉ blks (P++Q):=fun hm=>hacH.out (List.mem_cons_of_mem _ hm)
 refine ⟨rfl,⟨?_,?_,by rw[zab];exact hnnH.out.1,hcnH.out.1⟩,?_,?_⟩
 ·exact (hs1.zan _ hna _).zan _ hna _
 ·exact (hh1.other ⟨a.m,8,none⟩ (fun e=>hcnH.out.2 e.symm) _).other ⟨a.m,9,none⟩ (fun e=>hcnH.out.2 e.symm) _
 ·have hl:∀ x∈c::blks (P++Q),x∈c::blks (P++a::Q)∨w.heap.size≤x:=by
   intro x hx;rw[zc8];rw[zab] at hx;simp at hx ⊢;rcases hx with h|h|h
   ·exact .inl (.inl h)
   ·exact .inl (.inr (.inl h))
   ·exact .inl (.inr (.inr (.inr h)))
  exact ((((Fr.refl _ w).drew).trans hf1 hl).setCell _ (.inl (by simp[blks])) _).setCell _ (.inl (by simp[blks])) _
 ·have e:∀ (a b:Addr) (u v:Value),((w1.setCell a u).setCell b v).heap.size=w1.heap.size:=fun a b u v=>by simp[World.setCell]
  rw[e];exact hz1
theorem Tryz.zw4:(Tryz.prog.info? 179).map (fun i=>i.size)=some 10:=by kernel_rfl
theorem zyt (a:Addr) (w:World):(binOp .eql 133 (.pointer (some a)) (.pointer (some a))).run Tryz.prog w = .ok (.bool true) w:=by
 obtain ⟨j,hj,_⟩:=Option.map_eq_some_iff.1 Tryz.zw4
 have h:∀ d:Nat,(Op.equalIn (d+1) 133 (.pointer (some a)) (.pointer (some a))).run Tryz.prog w = .ok true w:=fun d=>by
  simp[Op.equalIn,run_underlying Tryz.underlying133,sizeOf,typeInfo,hj,run_sameAddr_same]
 simp only[binOp]
 simp[Op.equal,Op.maxDepth,h 9999]
theorem zuo (a b:Addr) (w:World) (hne:a≠b) {ca cb:Array Value} {ta tb:TypeId} (ha:w.heap[a.block]?=some (.cells ca ta (0,0))) (hb:w.heap[b.block]?=some (.cells cb tb (0,0))):(binOp .eql 133 (.pointer (some a)) (.pointer (some b))).run Tryz.prog w = .ok (.bool false) w:=by
 obtain ⟨j,hj,hz⟩:=Option.map_eq_some_iff.1 Tryz.zw4
 have h:∀ d:Nat,(Op.equalIn (d+1) 133 (.pointer (some a)) (.pointer (some b))).run Tryz.prog w = .ok false w:=fun d=>by
  simp[Op.equalIn,run_underlying Tryz.underlying133,sizeOf,typeInfo,hj,hz,run_sameAddr_other w hne ha hb]
 simp only[binOp]
 simp[Op.equal,Op.maxDepth,h 9999]
set_option maxRecDepth 100000 in
set_option maxHeartbeats 2000000 in
theorem zps (c o:Nat) (a:Mem) (Q:List Mem) (w:World) (h9:w.cell? ⟨a.m,9,none⟩=some (.pointer (hd Q none))) (hal:a.m<w.heap.size) :
  Calls Tryz.prog 238 #[.pointer (some ⟨c,o,none⟩),.pointer (some ⟨a.m,0,none⟩),.pointer (hd Q none)] w fun e w'=>e = .returned (.agg #[.pointer none,.pointer none])∧Below w.heap.size w w':=by
 have hac0:¬ a.m=w.heap.size:=by omega
 cases Q with
 | nil=>
  simp only[hd] at h9 ⊢
  go_enter Tryz.func238,Tryz.ntmps238
  go_wp2
  exact bodyPost_ret (v:=.agg #[.pointer none,.pointer none]) (by simp[results,Tryz.results238,go_sem]) rfl ⟨rfl,(Below.refl _ _).alloc (Nat.le_refl _) _⟩
 | cons b r=>
  simp only[hd,Mem.ad] at h9 ⊢
  have hpe:=fun wx=>zyt ⟨b.m,0,none⟩ wx
  go_enter Tryz.func238,Tryz.ntmps238
  go_wp2
  exact bodyPost_ret (v:=.agg #[.pointer none,.pointer none]) (by simp[results,Tryz.results238,go_sem]) rfl ⟨rfl,(Below.refl _ _).alloc (Nat.le_refl _) _⟩
set_option maxRecDepth 100000 in
set_option maxHeartbeats 4000000 in
theorem zxn (c o T:Nat) (cs:List Value) (P M:List Mem) (a m0:Mem) (w:World) (h:Ch w c o T cs (P++a::(m0::M))) :
  Calls Tryz.prog 238 #[.pointer (some ⟨c,o,none⟩),.pointer (some ⟨a.m,0,none⟩),.pointer none] w fun e w'=>e = .returned (.agg #[.pointer (some ⟨m0.m,0,none⟩),.pointer (lst (m0::M) none)])∧Ch w' c o T cs (P++[a])∧Seg w' none (m0::M) none∧Fr (c::blks (P++a::(m0::M))) w w':=by
 have hcl:=h.lt
 have hseg:=h.seg
 rw[seg_append] at hseg
 have hA:=hseg.2.cells
 have a9:w.cell? ⟨a.m,9,none⟩=some (.pointer (some ⟨m0.m,0,none⟩)):=za0 hA 9 _ rfl
 obtain ⟨M0,z,hMz⟩:=zlv (m0::M) (by simp)
 have hlz:lst (m0::M) none=some (⟨z.m,0,none⟩:Addr):=by rw[hMz];exact zcl _ _ _
 have hlall:lst (P++a::m0::M) none=some (⟨z.m,0,none⟩:Addr):=by rw[zc0];show lst (m0::M) (some a.ad)=_;rw[hMz];exact zcl _ _ _
 have cL:w.cell? ⟨c,o+1,none⟩=some (.pointer (some ⟨z.m,0,none⟩)):=by rw[← hlall];exact h.hdr.cellL
 have hal:a.m<w.heap.size:=h.mlt a.m (by simp[blks])
 have hac0:¬ a.m=w.heap.size:=by omega
 have hac1:¬ a.m=w.heap.size+1:=by omega
 have hcl0:¬ c=w.heap.size:=by omega
 have hcl1:¬ c=w.heap.size+1:=by omega
 obtain ⟨w2,hw2⟩:∃ w2,w2=((w.alloc (.cells #[.pointer none,.pointer none] 135)).alloc (.cells #[.pointer (some ⟨m0.m,0,none⟩),.pointer (some ⟨z.m,0,none⟩)] 135)).drew:=⟨_,rfl⟩
 have hs1:∀ ob,(w.alloc ob).heap.size=w.heap.size+1:=by intro ob;simp
 have hs2:w2.heap.size=w.heap.size+2:=by rw[hw2];simp
 have hb2:∀ x,x<w.heap.size→w2.heap[x]?=w.heap[x]?:=by
  intro x hx;rw[hw2];show ((w.alloc _).alloc _).heap[x]?=_;rw[Below.heap_alloc _ _ _ (by rw[hs1];omega),Below.heap_alloc _ _ _ hx]
 have hRN:Hid (w2.heap[w.heap.size]?=some (.cells #[.pointer none,.pointer none] 135 (0,0))):=hid (by rw[hw2];show ((w.alloc _).alloc _).heap[w.heap.size]?=_;rw[Below.heap_alloc _ _ _ (by simp)];exact za1 _ _)
 have hTN:Hid (w2.heap[w.heap.size+1]?=some (.cells #[.pointer (some ⟨m0.m,0,none⟩),.pointer (some ⟨z.m,0,none⟩)] 135 (0,0))):=hid (by rw[hw2,← hs1 (.cells #[.pointer none,.pointer none] 135)];exact za1 _ _)
 have hlt:∀ x∈blks (P++a::m0::M),x<w.heap.size:=h.mlt
 have hCh2:Ch w2 c o T cs (P++a::m0::M):=h.move (fun x hx=>hb2 x (by rcases List.mem_cons.1 hx with rfl|hx;exact hcl;exact hlt x hx))
 have hsp:P++a::m0::M=(P++[a])++(m0::M):=by simp
 have hbs:blks (P++a::m0::M)=blks (P++[a])++blks (m0::M):=by rw[hsp,zab]
 have hnd:=h.nodup
 rw[hbs] at hnd
 have hnd2:=List.nodup_append.1 hnd
 have hcn:=h.out
 rw[hbs,List.mem_append,not_or] at hcn
 have hseg2:=hCh2.seg
 rw[hsp,seg_append] at hseg2
 have hMseg:=hid hseg2.2
 have hJ:=hid (zf2 c o T cs _ _ (P++[a]) [] none none (hd (m0::M) none) none w2 hseg2.1 trivial (by rw[List.append_nil];exact hnd2.1) (by rw[List.append_nil];exact hcn.1) hCh2.hdr (fun _=>rfl) (fun _=>rfl))
 rw[zcl,List.append_nil,if_neg (by simp:¬ (P++[a]=[])),if_pos rfl] at hJ
 have hNout:Hid (w.heap.size+1 ∉ c::blks (P++[a])):=hid (fun hm=>by
  rcases List.mem_cons.1 hm with hm|hm
  ·omega
  ·have:=hlt _ (by rw[hbs];exact List.mem_append_left _ hm);omega)
 have hRout:Hid (w.heap.size ∉ c::blks (P++[a])):=hid (fun hm=>by
  rcases List.mem_cons.1 hm with hm|hm
  ·omega
  ·have:=hlt _ (by rw[hbs];exact List.mem_append_left _ hm);omega)
 have hMlt:Hid (∀ e∈m0::M,e.m<w2.heap.size):=hid (fun e he=>by have:=hlt e.m (by rw[hbs];exact List.mem_append_right _ (List.mem_map.2 ⟨e,he,rfl⟩));omega)
 have hMout:Hid (∀ e∈m0::M,e.m ∉ c::blks (P++[a])):=hid (fun e he hm=>by
  have heb:e.m∈blks (m0::M):=List.mem_map.2 ⟨e,he,rfl⟩
  rcases List.mem_cons.1 hm with hm|hm
  ·exact hcn.2 (hm ▸ heb)
  ·exact hnd2.2.2 e.m hm e.m heb rfl)
 have hfirst:Hid (hd (P++a::m0::M) none=hd (P++[a]) none):=hid (by rw[zd3,zd3];rfl)
 have hMzH:=hid hMz
 have hs2H:=hid hs2
 have hw2H:=hid hw2
 have hnd2H:=hid hnd2
 have hcnH:=hid hcn
 have hf2:Hid (Fr (c::blks (P++a::m0::M)) w w2):=hid (by rw[hw2];exact (((Fr.refl _ w).alloc _).alloc _).drew)
 have hzm:z.m<w.heap.size:=hlt z.m (by rw[hbs];exact List.mem_append_right _ (List.mem_map.2 ⟨z,by rw[hMz];simp,rfl⟩))
 have hm0l:m0.m<w.heap.size:=hlt m0.m (by simp[blks])
 have hz0:¬ z.m=w.heap.size:=by omega
 have hz1:¬ z.m=w.heap.size+1:=by omega
 have hm00:¬ m0.m=w.heap.size:=by omega
 have hm01:¬ m0.m=w.heap.size+1:=by omega
 have hlzH:=hid hlz
 rw[hlz]
 clear hs1 hs2 hb2 hlt hCh2 hnd hnd2 hcn hseg2 hw2 hMz hlz hlall hseg hA
 go_enter Tryz.func238,Tryz.ntmps238
 go_wp2_with fail
 go_region
 all_goals go_wp2_with fail
 rw[← hw2H.out]
 refine hJ.out.mono ?_
 rintro e1 w3 ⟨rfl,hs3,hh3,hf3,hz3⟩
 have hN3:=(hf3.block (w.heap.size+1) (by have:=hs2H.out;omega) hNout.out).trans hTN.out
 have hR3:=(hf3.block w.heap.size (by have:=hs2H.out;omega) hRout.out).trans hRN.out
 have n0:w3.cell? ⟨w.heap.size+1,0,none⟩=some (.pointer (some ⟨m0.m,0,none⟩)):=za0 hN3 0 _ rfl
 have n1:w3.cell? ⟨w.heap.size+1,1,none⟩=some (.pointer (some ⟨z.m,0,none⟩)):=za0 hN3 1 _ rfl
 have hM3:=hMseg.out.move (fun e he=>hf3.block e.m (hMlt.out e he) (hMout.out e he))
 obtain ⟨ma,mb,hm0⟩:=hM3.get m0 (by simp)
 obtain ⟨za,zb,hzb⟩:=hM3.get z (by rw[hMzH.out];simp)
 have m8:w3.cell? ⟨m0.m,8,none⟩=some (.pointer ma):=za0 hm0 8 _ rfl
 have mf:=za7 hm0
 have z9:w3.cell? ⟨z.m,9,none⟩=some (.pointer zb):=za0 hzb 9 _ rfl
 have zf:=za7 hzb
 have r0:w3.cell? ⟨w.heap.size,0,none⟩=some (.pointer none):=za0 hR3 0 _ rfl
 have r1:w3.cell? ⟨w.heap.size,1,none⟩=some (.pointer none):=za0 hR3 1 _ rfl
 have rf:=za7 hR3
 have hall:=hid (And.intro hs3 (And.intro hh3 (And.intro hf3 (And.intro hM3 (And.intro hR3 hz3)))))
 clear hs3 hh3 hf3 hz3 hN3 hR3 hM3 hm0 hzb
 go_wp2_with fail
 go_region
 go_wp2
 have hne0:¬ w.heap.size=m0.m:=fun e=>hm00 e.symm
 have hne1:¬ w.heap.size=z.m:=fun e=>hz0 e.symm
 obtain ⟨hs3,hh3,hf3,hM3,hR3,hzz⟩:=hall.out
 have hndM:(blks (m0::M)).Nodup:=hnd2H.out.2.1
 have hm0n:m0.m ∉ blks M:=(List.nodup_cons.1 (show (m0.m::blks M).Nodup from hndM)).1
 have hzn:z.m ∉ blks M0:=by
  rw[hMzH.out,zab] at hndM
  intro hm;exact (List.nodup_append.1 hndM).2.2 z.m hm z.m (by simp[blks]) rfl
 have g1:=hM3.zir hm0n none
 rw[hMzH.out] at g1
 have g2:=g1.zh4 hzn none
 rw[← hMzH.out] at g2
 have hzin:z.m∈blks (m0::M):=by rw[hMzH.out];simp[blks]
 have hm0in:m0.m∈blks (m0::M):=by simp[blks]
 have hdj:∀ x∈blks (m0::M),x ∉ blks (P++[a])∧x≠c:=fun x hx=>⟨fun hm=>hnd2H.out.2.2 x hm x hx rfl,fun e=>hcnH.out.2 (e ▸ hx)⟩
 have hRM:w.heap.size ∉ blks (m0::M):=fun hm=>by
  obtain ⟨e,he,hem⟩:=List.mem_map.1 hm
  have h1:=h.mlt e.m (by rw[hbs];exact List.mem_append_right _ (List.mem_map.2 ⟨e,he,rfl⟩));omega
 have hRP:w.heap.size ∉ blks (P++[a]):=fun hm=>hRout.out (List.mem_cons_of_mem _ hm)
 have hcR:c≠w.heap.size:=hcl0
 have s1:=((hs3.zan ⟨m0.m,8,none⟩ (hdj _ hm0in).1 (.pointer none)).zan ⟨z.m,9,none⟩ (hdj _ hzin).1 (.pointer none))
 have t1:=((hh3.other ⟨m0.m,8,none⟩ (hdj _ hm0in).2 (.pointer none)).other ⟨z.m,9,none⟩ (hdj _ hzin).2 (.pointer none))
 have r1:=zan (zan hR3 ⟨m0.m,8,none⟩ hne0 (.pointer none)) ⟨z.m,9,none⟩ hne1 (.pointer none)
 have r2:=za3 (za3 (cs:=[.pointer none,.pointer none]) r1 0 (.pointer (some ⟨m0.m,0,none⟩))) 1 (.pointer (some ⟨z.m,0,none⟩))
 have y0:=za0 r2 0 _ rfl
 have y1:=za0 r2 1 _ rfl
 refine bodyPost_ret (v:=.agg #[.pointer (some ⟨m0.m,0,none⟩),.pointer (some ⟨z.m,0,none⟩)]) (by simp[results,Tryz.results238,go_sem,y0,y1]) rfl ⟨rfl,⟨?_,?_,hnd2H.out.1,hcnH.out.1⟩,?_,?_⟩
 ·exact ((s1.zan ⟨w.heap.size,0,none⟩ hRP _).zan ⟨w.heap.size,1,none⟩ hRP _).move (fun _ _=>rfl)
 ·rw[zcl,← hfirst.out]
  exact (t1.other ⟨w.heap.size,0,none⟩ (fun e=>hcR e.symm) _).other ⟨w.heap.size,1,none⟩ (fun e=>hcR e.symm) _
 ·exact ((g2.zan ⟨w.heap.size,0,none⟩ hRM _).zan ⟨w.heap.size,1,none⟩ hRM _).move (fun _ _=>rfl)
 ·have hl:∀ x∈c::blks (P++[a]),x∈c::blks (P++a::m0::M)∨w.heap.size≤x:=by
   intro x hx;rw[hbs];simp only[List.mem_cons,List.mem_append] at hx ⊢
   rcases hx with hx|hx
   ·exact .inl (.inl hx)
   ·exact .inl (.inr (.inl hx))
  have hin:∀ x∈blks (m0::M),x∈c::blks (P++a::m0::M):=fun x hx=>List.mem_cons_of_mem _ (by rw[hbs];exact List.mem_append_right _ hx)
  exact (((((hf2.out.trans hf3 hl).setCell ⟨m0.m,8,none⟩ (.inl (hin _ hm0in)) _).setCell ⟨z.m,9,none⟩ (.inl (hin _ hzin)) _).setCell ⟨w.heap.size,0,none⟩ (.inr (Nat.le_refl _)) _).setCell ⟨w.heap.size,1,none⟩ (.inr (Nat.le_refl _)) _).drew
end Go.Proofs.YtlojgpkajkedeaaGreatDoor
