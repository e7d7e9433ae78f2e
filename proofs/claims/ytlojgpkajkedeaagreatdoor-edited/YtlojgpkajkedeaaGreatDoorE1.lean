import Derived.Test.YtlojgpkajkedeaaGreatDoorW7
import Derived.WalkKit
import Derived.WalkSpells
import Derived.WalkLawsBesides
import Derived.WalkMore
import Derived.ScopeJumps
import Derived.Below
import Derived.RegionTactic
import Derived.Deep.DeepCutAuto
import Derived.Deep.RegionHeld3
import Derived.LaidEql
namespace Go.Proofs.YtlojgpkajkedeaaGreatDoor
open Go.RowKit
set_option maxHeartbeats 1000000 in
theorem first_any (c o : Nat) (v : Value) (w : World) (h0 : w.cell? ⟨c, o, none⟩ = some v) (hv : ∃ a, v = .pointer a) :
    Calls Tryz.prog 109 #[.pointer (some ⟨c, o, none⟩)] w fun e w' => e = .returned v ∧ w = w' := by
  obtain ⟨a, rfl⟩ := hv
  go_enter Tryz.func109, Tryz.ntmps109
  go_wp2
  go_ret
  exact ⟨rfl, rfl⟩

set_option maxHeartbeats 1000000 in
theorem behind_any (m : Nat) (v : Value) (w : World) (h0 : w.cell? ⟨m, 9, none⟩ = some v) (hv : ∃ a, v = .pointer a) :
    Calls Tryz.prog 110 #[.pointer (some ⟨m, 0, none⟩)] w fun e w' => e = .returned v ∧ w = w' := by
  obtain ⟨a, rfl⟩ := hv
  go_enter Tryz.func110, Tryz.ntmps110
  go_wp2
  go_ret
  exact ⟨rfl, rfl⟩

set_option maxHeartbeats 1000000 in
theorem join_first (c o m : Nat) (w : World) (hne : c ≠ m) (h0 : ∃ v, w.cell? ⟨c, o, none⟩ = some v) (f0 : w.frozen? ⟨c, o, none⟩ = false) (h1 : ∃ v, w.cell? ⟨m, 8, none⟩ = some v) (f1 : w.frozen? ⟨m, 8, none⟩ = false) :
    Calls Tryz.prog 230 #[.pointer (some ⟨c, o, none⟩), .pointer none, .pointer (some ⟨m, 0, none⟩)] w fun e w' => e = .returned (.tuple #[]) ∧ (w.setCell ⟨c, o, none⟩ (.pointer (some ⟨m, 0, none⟩))).setCell ⟨m, 8, none⟩ (.pointer none) = w' := by
  obtain ⟨v0, h0⟩ := h0
  obtain ⟨v1, h1⟩ := h1
  have hne' : m ≠ c := fun h => hne h.symm
  go_enter Tryz.func230, Tryz.ntmps230
  go_wp2
  go_end0
  exact ⟨rfl, rfl⟩

set_option maxHeartbeats 1000000 in
theorem join_last (c o m : Nat) (w : World) (hne : c ≠ m) (h0 : ∃ v, w.cell? ⟨c, o + 1, none⟩ = some v) (f0 : w.frozen? ⟨c, o + 1, none⟩ = false) (h1 : ∃ v, w.cell? ⟨m, 9, none⟩ = some v) (f1 : w.frozen? ⟨m, 9, none⟩ = false) :
    Calls Tryz.prog 230 #[.pointer (some ⟨c, o, none⟩), .pointer (some ⟨m, 0, none⟩), .pointer none] w fun e w' => e = .returned (.tuple #[]) ∧ (w.setCell ⟨m, 9, none⟩ (.pointer none)).setCell ⟨c, o + 1, none⟩ (.pointer (some ⟨m, 0, none⟩)) = w' := by
  obtain ⟨v0, h0⟩ := h0
  obtain ⟨v1, h1⟩ := h1
  have hne' : m ≠ c := fun h => hne h.symm
  go_enter Tryz.func230, Tryz.ntmps230
  go_wp2
  go_end0
  exact ⟨rfl, rfl⟩


set_option maxHeartbeats 2000000 in
theorem append_empty (C o : Nat) (cs : List Value) (T : Nat) (k z : Int) (info text : ByteArray) (f l : Option Addr) (op cl : Bool) (w : World) (hCl : C < w.heap.size) (hC : w.heap[C]? = some (.cells cs.toArray T (0, 0))) (v0 : Value) (h0 : cs[o]? = some v0) (h1 : cs[o + 1]? = some (.pointer none)) :
    Calls Tryz.prog 196 #[.pointer (some ⟨C, o, none⟩), .agg #[.int .i64 k, .string info, .string text, .pointer f, .pointer l, .int .i64 z, .bool op, .bool cl]] w fun e w' =>
      e = .returned (.pointer (some ⟨w.heap.size + 1, 0, none⟩)) ∧ w'.heap[C]? = some (.cells ((cs.set o (.pointer (some ⟨w.heap.size + 1, 0, none⟩))).set (o + 1) (.pointer (some ⟨w.heap.size + 1, 0, none⟩))).toArray T (0, 0)) ∧
      w'.heap[w.heap.size + 1]? = some (.cells #[.int .i64 k, .string info, .string text, .pointer f, .pointer l, .int .i64 z, .bool op, .bool cl, .pointer none, .pointer none] 179 (0, 0)) ∧ Below C w w' ∧ w.heap.size + 2 = w'.heap.size := by
  have q0 := cell_blk hC o v0 (by simpa using h0)
  have q1 := cell_blk hC (o + 1) _ (by simpa using h1)
  have g0 := free_blk hC
  obtain ⟨w2, hw2⟩ : ∃ w2, w2 = (w.alloc (.cells #[.int .i64 k, .string info, .string text, .pointer f, .pointer l, .int .i64 z, .bool op, .bool cl] 177)).alloc (.cells #[.int .i64 k, .string info, .string text, .pointer f, .pointer l, .int .i64 z, .bool op, .bool cl, .pointer none, .pointer none] 179) := ⟨_, rfl⟩
  have hM : w2.heap[w.heap.size + 1]? = some (.cells [.int .i64 k, .string info, .string text, .pointer f, .pointer l, .int .i64 z, .bool op, .bool cl, .pointer none, .pointer none].toArray 179 (0, 0)) := by
    have hs : (w.alloc (.cells #[.int .i64 k, .string info, .string text, .pointer f, .pointer l, .int .i64 z, .bool op, .bool cl] 177)).heap.size = w.heap.size + 1 := by simp
    rw [hw2, ← hs]; exact alloc_new _ _
  have hb2 : Below w.heap.size w w2 := by rw [hw2]; exact ((Below.refl _ _).alloc (Nat.le_refl _) _).alloc (by simp) _
  have hsz2 : w.heap.size + 2 = w2.heap.size := by rw [hw2]; simp
  have hC2 : w2.heap[C]? = some (.cells cs.toArray T (0, 0)) := (hb2.block C hCl).trans hC
  have hJ1 := hid (join_first C o (w.heap.size + 1) w2 (by omega) ⟨_, cell_blk hC2 o v0 (by simpa using h0)⟩ (free_blk hC2 _) ⟨_, cell_blk hM 8 _ rfl⟩ (free_blk hM _))
  have hC3 := set_other (set_blk hC2 o (.pointer (some ⟨w.heap.size + 1, 0, none⟩))) ⟨w.heap.size + 1, 8, none⟩ (by show C ≠ w.heap.size + 1; omega) (.pointer none)
  have hM3 := set_blk (set_other hM ⟨C, o, none⟩ (by show w.heap.size + 1 ≠ C; omega) (.pointer (some ⟨w.heap.size + 1, 0, none⟩))) 8 (.pointer none)
  obtain ⟨w3, hw3⟩ : ∃ w3, w3 = (w2.setCell ⟨C, o, none⟩ (.pointer (some ⟨w.heap.size + 1, 0, none⟩))).setCell ⟨w.heap.size + 1, 8, none⟩ (.pointer none) := ⟨_, rfl⟩
  have hb3 : Below C w w3 := by rw [hw3]; exact Below.setCell (Below.setCell (p := ⟨C, o, none⟩) (hb2.mono (Nat.le_of_lt hCl)) (Nat.le_refl C) _) (by show C ≤ w.heap.size + 1; omega) _
  have hsz3 : w.heap.size + 2 = w3.heap.size := by rw [hw3]; simp [World.setCell]; exact hsz2
  rw [← hw3] at hJ1 hC3 hM3
  have hJ2 := hid (join_last C o (w.heap.size + 1) w3 (by omega) ⟨_, cell_blk hC3 (o + 1) (.pointer none) (by simp; exact h1)⟩ (free_blk hC3 _) ⟨_, cell_blk hM3 9 _ rfl⟩ (free_blk hM3 _))
  have hC4 := set_blk (set_other hC3 ⟨w.heap.size + 1, 9, none⟩ (by show C ≠ w.heap.size + 1; omega) (.pointer none)) (o + 1) (.pointer (some ⟨w.heap.size + 1, 0, none⟩))
  have hM4 := set_other (set_blk hM3 9 (.pointer none)) ⟨C, o + 1, none⟩ (by show w.heap.size + 1 ≠ C; omega) (.pointer (some ⟨w.heap.size + 1, 0, none⟩))
  have hb4 : Below C w ((w3.setCell ⟨w.heap.size + 1, 9, none⟩ (.pointer none)).setCell ⟨C, o + 1, none⟩ (.pointer (some ⟨w.heap.size + 1, 0, none⟩))) := Below.setCell (Below.setCell hb3 (by show C ≤ w.heap.size + 1; omega) _) (Nat.le_refl C) _
  have hsz4 : w.heap.size + 2 = ((w3.setCell ⟨w.heap.size + 1, 9, none⟩ (.pointer none)).setCell ⟨C, o + 1, none⟩ (.pointer (some ⟨w.heap.size + 1, 0, none⟩))).heap.size := by simp [World.setCell]; exact hsz3
  have hall := hid (And.intro hC4 (And.intro hM4 (And.intro hb4 hsz4)))
  have hcl : ¬ C = w.heap.size := by omega
  have hcl1 : ¬ C = w.heap.size + 1 := by omega
  clear hC2 hC3 hM hM3 hb2 hb3 hC4 hM4 hb4 hsz2 hsz3 hsz4 hw3
  have hw2H := hid hw2
  clear hw2
  go_enter Tryz.func196, Tryz.ntmps196
  go_wp2_with fail
  rw [← hw2H.out]
  refine hJ1.out.mono ?_
  rintro e w' ⟨rfl, rfl⟩
  go_wp2_with fail
  refine hJ2.out.mono ?_
  rintro e w' ⟨rfl, rfl⟩
  go_wp2
  go_ret
  exact ⟨rfl, hall.out⟩

end Go.Proofs.YtlojgpkajkedeaaGreatDoor
/- Parts in memory: chains. -/
namespace Go.Proofs.YtlojgpkajkedeaaGreatDoor
open Go.RowKit

/-- A part of a content. -/
inductive Pt where
  | mk (kind : Int) (info text : List UInt8) (kids : List Pt) (rs : Nat) (ro rc : Bool)
def Pt.kind : Pt → Int | .mk k _ _ _ _ _ _ => k
def Pt.info : Pt → List UInt8 | .mk _ i _ _ _ _ _ => i
def Pt.text : Pt → List UInt8 | .mk _ _ t _ _ _ _ => t
def Pt.kids : Pt → List Pt | .mk _ _ _ k _ _ _ => k
def Pt.rs : Pt → Nat | .mk _ _ _ _ z _ _ => z
def Pt.ro : Pt → Bool | .mk _ _ _ _ _ o _ => o
def Pt.rc : Pt → Bool | .mk _ _ _ _ _ _ c => c
def Pt.withText (p : Pt) (t : List UInt8) : Pt := .mk p.kind p.info t p.kids p.rs p.ro p.rc

/-- A member of a chain: its block, its part, the ends of its parts' chain. -/
structure Mem where
  m : Nat
  p : Pt
  kf : Option Addr
  kl : Option Addr
abbrev Mem.ad (e : Mem) : Addr := ⟨e.m, 0, none⟩
def memCells (e : Mem) (ah be : Option Addr) : List Value := [.int .i64 e.p.kind, .string (S.B e.p.info), .string (S.B e.p.text), .pointer e.kf, .pointer e.kl, .int .i64 (e.p.rs : Nat), .bool e.p.ro, .bool e.p.rc, .pointer ah, .pointer be]

/-- Parts that stay as they are, from a first one on. -/
inductive KRep (w : World) (A : Nat → Prop) : Option Addr → List Pt → Prop
  | nil : KRep w A none []
  | cons (e : Mem) (ah be : Option Addr) (r : List Pt) (ha : A e.m) (hb : w.heap[e.m]? = some (.cells (memCells e ah be).toArray 179 (0, 0)))
      (hk : KRep w A e.kf e.p.kids) (hr : KRep w A be r) : KRep w A (some e.ad) (e.p :: r)
theorem KRep.move {w w' : World} {A A' : Nat → Prop} {a : Option Addr} {ps : List Pt} (h : KRep w A a ps) (hA : ∀ b, A b → A' b) (hw : ∀ b, A b → w'.heap[b]? = w.heap[b]?) : KRep w' A' a ps := by
  induction h with
  | nil => exact .nil
  | cons e ah be r ha hb hk hr ih1 ih2 => exact .cons e ah be r (hA _ ha) (by rw [hw _ ha]; exact hb) ih1 ih2

/-- The ends of a piece of a chain. -/
def hd (l : List Mem) (be : Option Addr) : Option Addr := match l with
  | [] => be
  | e :: _ => some e.ad
def lst : List Mem → Option Addr → Option Addr
  | [], ah => ah
  | e :: r, _ => lst r (some e.ad)
/-- A piece of a chain: what stands ahead of it, its members, what stands behind. -/
def Seg (w : World) : Option Addr → List Mem → Option Addr → Prop
  | _, [], _ => True
  | ah, e :: r, be => w.heap[e.m]? = some (.cells (memCells e ah (hd r be)).toArray 179 (0, 0)) ∧ Seg w (some e.ad) r be
theorem hd_append (l1 l2 : List Mem) (be : Option Addr) : hd (l1 ++ l2) be = hd l1 (hd l2 be) := by cases l1 <;> rfl
theorem lst_append (l1 l2 : List Mem) (ah : Option Addr) : lst (l1 ++ l2) ah = lst l2 (lst l1 ah) := by
  induction l1 generalizing ah with
  | nil => rfl
  | cons e r ih => exact ih _
theorem seg_append (w : World) (l1 l2 : List Mem) (ah be : Option Addr) : Seg w ah (l1 ++ l2) be ↔ Seg w ah l1 (hd l2 be) ∧ Seg w (lst l1 ah) l2 be := by
  induction l1 generalizing ah with
  | nil => simp [Seg, lst]
  | cons e r ih =>
    simp only [List.cons_append, Seg, lst, hd_append, ih]
    exact and_assoc.symm
theorem Seg.move {w w' : World} {l : List Mem} {ah be : Option Addr} (h : Seg w ah l be) (hw : ∀ e ∈ l, w'.heap[e.m]? = w.heap[e.m]?) : Seg w' ah l be := by
  induction l generalizing ah with
  | nil => trivial
  | cons e r ih => exact ⟨by rw [hw e (by simp)]; exact h.1, ih h.2 (fun x hx => hw x (by simp [hx]))⟩
theorem Seg.get {w : World} {l : List Mem} {ah be : Option Addr} (h : Seg w ah l be) (e : Mem) (he : e ∈ l) : ∃ a b, w.heap[e.m]? = some (.cells (memCells e a b).toArray 179 (0, 0)) := by
  induction l generalizing ah with
  | nil => simp at he
  | cons x r ih =>
    simp at he
    rcases he with rfl | he
    · exact ⟨_, _, h.1⟩
    · exact ih h.2 he
theorem Seg.lt {w : World} {l : List Mem} {ah be : Option Addr} (h : Seg w ah l be) (e : Mem) (he : e ∈ l) : e.m < w.heap.size := by
  obtain ⟨a, b, hb⟩ := h.get e he
  exact (Array.getElem?_eq_some_iff.1 hb).1
/-- The blocks of a piece. -/
def blks (l : List Mem) : List Nat := l.map Mem.m
theorem Seg.set_other {w : World} {l : List Mem} {ah be : Option Addr} (h : Seg w ah l be) (a : Addr) (ha : a.block ∉ blks l) (u : Value) : Seg (w.setCell a u) ah l be :=
  h.move (fun e he => Below.heap_setCell _ _ _ _ (fun x => ha (by rw [← x]; exact List.mem_map.2 ⟨e, he, rfl⟩)))
/-- What stands behind the last member is set. -/
theorem Seg.set_behind {w : World} {l : List Mem} {e : Mem} {ah be : Option Addr} (h : Seg w ah (l ++ [e]) be) (hn : e.m ∉ blks l) (be' : Option Addr) : Seg (w.setCell ⟨e.m, 9, none⟩ (.pointer be')) ah (l ++ [e]) be' := by
  rw [seg_append] at h ⊢
  exact ⟨h.1.set_other _ hn _, set_blk h.2.1 9 _, trivial⟩
/-- What stands ahead of the first member is set. -/
theorem Seg.set_ahead {w : World} {r : List Mem} {e : Mem} {ah be : Option Addr} (h : Seg w ah (e :: r) be) (hn : e.m ∉ blks r) (ah' : Option Addr) : Seg (w.setCell ⟨e.m, 8, none⟩ (.pointer ah')) ah' (e :: r) be :=
  ⟨set_blk h.1 8 _, h.2.set_other _ hn _⟩
theorem Seg.cells {w : World} {r : List Mem} {e : Mem} {ah be : Option Addr} (h : Seg w ah (e :: r) be) : w.heap[e.m]? = some (.cells (memCells e ah (hd r be)).toArray 179 (0, 0)) := h.1

set_option maxHeartbeats 1000000 in
theorem ahead_any (m : Nat) (v : Option Addr) (w : World) (h0 : w.cell? ⟨m, 8, none⟩ = some (.pointer v)) :
    Calls Tryz.prog 242 #[.pointer (some ⟨m, 0, none⟩)] w fun e w' => e = .returned (.pointer v) ∧ w = w' := by
  go_enter Tryz.func242, Tryz.ntmps242
  go_wp2
  go_ret
  exact ⟨rfl, rfl⟩

set_option maxHeartbeats 1000000 in
theorem join_both (c o a m : Nat) (w : World) (hne : a ≠ m) (h0 : ∃ v, w.cell? ⟨a, 9, none⟩ = some v) (f0 : w.frozen? ⟨a, 9, none⟩ = false) (h1 : ∃ v, w.cell? ⟨m, 8, none⟩ = some v) (f1 : w.frozen? ⟨m, 8, none⟩ = false) :
    Calls Tryz.prog 230 #[.pointer (some ⟨c, o, none⟩), .pointer (some ⟨a, 0, none⟩), .pointer (some ⟨m, 0, none⟩)] w fun e w' => e = .returned (.tuple #[]) ∧ (w.setCell ⟨a, 9, none⟩ (.pointer (some ⟨m, 0, none⟩))).setCell ⟨m, 8, none⟩ (.pointer (some ⟨a, 0, none⟩)) = w' := by
  obtain ⟨v0, h0⟩ := h0
  obtain ⟨v1, h1⟩ := h1
  have hne' : m ≠ a := fun h => hne h.symm
  go_enter Tryz.func230, Tryz.ntmps230
  go_wp2
  go_end0
  exact ⟨rfl, rfl⟩

set_option maxHeartbeats 1000000 in
theorem join_none (c o : Nat) (w : World) (h0 : ∃ v, w.cell? ⟨c, o, none⟩ = some v) (f0 : w.frozen? ⟨c, o, none⟩ = false) (h1 : ∃ v, w.cell? ⟨c, o + 1, none⟩ = some v) (f1 : w.frozen? ⟨c, o + 1, none⟩ = false) :
    Calls Tryz.prog 230 #[.pointer (some ⟨c, o, none⟩), .pointer none, .pointer none] w fun e w' => e = .returned (.tuple #[]) ∧ (w.setCell ⟨c, o, none⟩ (.pointer none)).setCell ⟨c, o + 1, none⟩ (.pointer none) = w' := by
  obtain ⟨v0, h0⟩ := h0
  obtain ⟨v1, h1⟩ := h1
  go_enter Tryz.func230, Tryz.ntmps230
  go_wp2
  go_end0
  exact ⟨rfl, rfl⟩

end Go.Proofs.YtlojgpkajkedeaaGreatDoor
/- Chains: what join makes of two pieces. -/
namespace Go.Proofs.YtlojgpkajkedeaaGreatDoor
open Go.RowKit

/-- Of what was there only the named blocks may have changed. -/
structure Fr (L : List Nat) (w w' : World) : Prop where
  os : w'.os = w.os
  tape : w'.tape = w.tape
  output : w'.output = w.output
  size : w.heap.size ≤ w'.heap.size
  block : ∀ k, k < w.heap.size → k ∉ L → w'.heap[k]? = w.heap[k]?
theorem Fr.refl (L : List Nat) (w : World) : Fr L w w := ⟨rfl, rfl, rfl, Nat.le_refl _, fun _ _ _ => rfl⟩
theorem Fr.trans {L L' : List Nat} {a b c : World} (h : Fr L a b) (k : Fr L' b c) (hl : ∀ x ∈ L', x ∈ L ∨ a.heap.size ≤ x) : Fr L a c :=
  ⟨k.os.trans h.os, k.tape.trans h.tape, k.output.trans h.output, Nat.le_trans h.size k.size, fun x hx hn => by
    rw [k.block x (Nat.lt_of_lt_of_le hx h.size) (fun e => by rcases hl x e with h1 | h1; exact hn h1; omega), h.block x hx hn]⟩
theorem Fr.mono {L L' : List Nat} {a b : World} (h : Fr L a b) (hl : ∀ x ∈ L, x ∈ L' ∨ a.heap.size ≤ x) : Fr L' a b :=
  ⟨h.os, h.tape, h.output, h.size, fun x hx hn => h.block x hx (fun e => by rcases hl x e with h1 | h1; exact hn h1; omega)⟩
theorem Fr.setCell {L : List Nat} {a w : World} (h : Fr L a w) (p : Addr) (hp : p.block ∈ L ∨ a.heap.size ≤ p.block) (u : Value) : Fr L a (w.setCell p u) :=
  ⟨h.os, h.tape, h.output, by have := h.size; simpa [World.setCell] using this, fun x hx hn => by
    rw [Below.heap_setCell _ _ _ _ (fun e => by rcases hp with h1 | h1; exact hn (e ▸ h1); omega), h.block x hx hn]⟩
theorem Fr.alloc {L : List Nat} {a w : World} (h : Fr L a w) (o : Obj) : Fr L a (w.alloc o) :=
  ⟨h.os, h.tape, h.output, by have := h.size; simp; omega, fun x hx hn => by
    rw [Below.heap_alloc _ _ _ (Nat.lt_of_lt_of_le hx h.size), h.block x hx hn]⟩
theorem Fr.drew {L : List Nat} {a w : World} (h : Fr L a w) : Fr L a w.drew := ⟨h.os, h.tape, h.output, h.size, h.block⟩
theorem Fr.ofBelow {L : List Nat} {w w' : World} (h : Below w.heap.size w w') : Fr L w w' := ⟨h.os, h.tape, h.output, h.size, fun x hx _ => h.block x hx⟩
theorem Fr.below {L : List Nat} {w w' : World} {B : Nat} (h : Fr L w w') (hB : B ≤ w.heap.size) (hl : ∀ x ∈ L, B ≤ x) : Below B w w' := ⟨h.os, h.tape, h.output, h.size, fun x hx => h.block x (by omega) (fun e => by have := hl x e; omega)⟩

/-- A block that holds, among others, a chain's two ends. -/
def chCells (cs : List Value) (o : Nat) (f l : Option Addr) : List Value := (cs.set o (.pointer f)).set (o + 1) (.pointer l)
def Hdr (w : World) (c o T : Nat) (cs : List Value) (f l : Option Addr) : Prop := w.heap[c]? = some (.cells (chCells cs o f l).toArray T (0, 0)) ∧ o + 1 < cs.length
theorem Hdr.first {w : World} {c o T : Nat} {cs : List Value} {f l : Option Addr} (h : Hdr w c o T cs f l) (f' : Option Addr) : Hdr (w.setCell ⟨c, o, none⟩ (.pointer f')) c o T cs f' l := by
  refine ⟨?_, h.2⟩
  have := set_blk h.1 o (.pointer f')
  rw [this]; congr 2
  unfold chCells
  rw [List.set_comm _ _ (by omega), List.set_set]
theorem Hdr.last {w : World} {c o T : Nat} {cs : List Value} {f l : Option Addr} (h : Hdr w c o T cs f l) (l' : Option Addr) : Hdr (w.setCell ⟨c, o + 1, none⟩ (.pointer l')) c o T cs f l' := by
  refine ⟨?_, h.2⟩
  have := set_blk h.1 (o + 1) (.pointer l')
  rw [this]; congr 2
  unfold chCells
  rw [List.set_set]
theorem Hdr.other {w : World} {c o T : Nat} {cs : List Value} {f l : Option Addr} (h : Hdr w c o T cs f l) (a : Addr) (ha : a.block ≠ c) (u : Value) : Hdr (w.setCell a u) c o T cs f l :=
  ⟨by rw [Below.heap_setCell _ _ _ _ (fun e => ha e.symm)]; exact h.1, h.2⟩
theorem Hdr.cellF {w : World} {c o T : Nat} {cs : List Value} {f l : Option Addr} (h : Hdr w c o T cs f l) : w.cell? ⟨c, o, none⟩ = some (.pointer f) :=
  cell_blk h.1 o _ (by unfold chCells; rw [List.getElem?_toArray, List.getElem?_set_ne (by omega), List.getElem?_set_self (by have := h.2; omega)])
theorem Hdr.cellL {w : World} {c o T : Nat} {cs : List Value} {f l : Option Addr} (h : Hdr w c o T cs f l) : w.cell? ⟨c, o + 1, none⟩ = some (.pointer l) :=
  cell_blk h.1 (o + 1) _ (by unfold chCells; rw [List.getElem?_toArray, List.getElem?_set_self (by rw [List.length_set]; exact h.2)])
theorem Hdr.free {w : World} {c o T : Nat} {cs : List Value} {f l : Option Addr} (h : Hdr w c o T cs f l) (i : Nat) : w.frozen? ⟨c, i, none⟩ = false := free_blk h.1 i
theorem Hdr.move {w w' : World} {c o T : Nat} {cs : List Value} {f l : Option Addr} (h : Hdr w c o T cs f l) (hw : w'.heap[c]? = w.heap[c]?) : Hdr w' c o T cs f l := ⟨by rw [hw]; exact h.1, h.2⟩

theorem lst_snoc (l : List Mem) (e : Mem) (ah : Option Addr) : lst (l ++ [e]) ah = some e.ad := by rw [lst_append]; rfl
theorem snoc_of (l : List Mem) (h : l ≠ []) : ∃ l0 e, l = l0 ++ [e] := ⟨l.dropLast, l.getLast h, (List.dropLast_concat_getLast h).symm⟩

/-- join makes one piece of two. -/
theorem join_seam (c o T : Nat) (cs : List Value) (f l : Option Addr) (P Q : List Mem) (ah be x y : Option Addr) (w : World) (hP : Seg w ah P x) (hQ : Seg w y Q be) (hn : (blks (P ++ Q)).Nodup) (hc : c ∉ blks (P ++ Q)) (hH : Hdr w c o T cs f l) (hah : P = [] → ah = none) (hbe : Q = [] → be = none) :
    Calls Tryz.prog 230 #[.pointer (some ⟨c, o, none⟩), .pointer (lst P none), .pointer (hd Q none)] w fun e w' => e = .returned (.tuple #[]) ∧ Seg w' ah (P ++ Q) be ∧ Hdr w' c o T cs (if P = [] then hd Q none else f) (if Q = [] then lst P none else l) ∧ Fr (c :: blks (P ++ Q)) w w' ∧ w.heap.size = w'.heap.size := by
  have hsz : ∀ (a b : Addr) (u v : Value), w.heap.size = ((w.setCell a u).setCell b v).heap.size := fun a b u v => by simp [World.setCell]
  by_cases hp : P = []
  · subst hp
    cases Q with
    | nil =>
      refine (join_none c o w ⟨_, hH.cellF⟩ (hH.free _) ⟨_, hH.cellL⟩ (hH.free _)).mono ?_
      rintro e w' ⟨rfl, rfl⟩
      exact ⟨rfl, trivial, (hH.first none).last none, ((Fr.refl _ w).setCell _ (.inl (by simp)) _).setCell _ (.inl (by simp)) _, hsz _ _ _ _⟩
    | cons b Q0 =>
      have hcb : c ≠ b.m := fun e => hc (by simp [blks, e])
      have hbn : b.m ∉ blks Q0 := by have := List.nodup_cons.1 (show (b.m :: blks Q0).Nodup from hn); exact this.1
      have hQb := hQ.cells
      refine (join_first c o b.m w hcb ⟨_, hH.cellF⟩ (hH.free _) ⟨_, cell_blk hQb 8 _ rfl⟩ (free_blk hQb _)).mono ?_
      rintro e w' ⟨rfl, rfl⟩
      have h1 := hQ.set_other ⟨c, o, none⟩ (by simpa using hc) (.pointer (some b.ad))
      rw [hah rfl]
      refine ⟨rfl, h1.set_ahead hbn none, ((hH.first _).other ⟨b.m, 8, none⟩ (fun e => hcb e.symm) _), ((Fr.refl _ w).setCell _ (.inl (by simp)) _).setCell _ (.inl (by simp [blks])) _, hsz _ _ _ _⟩
  · obtain ⟨P0, a, rfl⟩ := snoc_of P hp
    have hca : c ≠ a.m := fun e => hc (by simp [blks, e])
    have han : a.m ∉ blks P0 := by
      have h2 : (blks P0 ++ (a.m :: blks Q)).Nodup := by simpa [blks, List.append_assoc] using hn
      have h3 := List.nodup_append.1 h2
      intro hm; exact h3.2.2 a.m hm a.m (by simp) rfl
    have hPa := ((seg_append w P0 [a] ah x).1 hP).2.cells
    rw [lst_snoc, if_neg hp]
    cases Q with
    | nil =>
      refine (join_last c o a.m w hca ⟨_, hH.cellL⟩ (hH.free _) ⟨_, cell_blk hPa 9 _ rfl⟩ (free_blk hPa _)).mono ?_
      rintro e w' ⟨rfl, rfl⟩
      rw [hbe rfl, List.append_nil]
      have h1 := hP.set_behind han none
      refine ⟨rfl, h1.set_other _ (by simpa using hc) _, (hH.other ⟨a.m, 9, none⟩ (fun e => hca e.symm) _).last _, ((Fr.refl _ w).setCell _ (.inl (by simp [blks])) _).setCell _ (.inl (by simp)) _, hsz _ _ _ _⟩
    | cons b Q0 =>
      have hab : a.m ≠ b.m := by
        have h2 : (blks P0 ++ (a.m :: b.m :: blks Q0)).Nodup := by simpa [blks, List.append_assoc] using hn
        have h3 := (List.nodup_append.1 h2).2.1
        have := (List.nodup_cons.1 h3).1
        intro e; exact this (by simp [e])
      have hdis : ∀ z ∈ blks (P0 ++ [a]), z ∉ blks (b :: Q0) := by
        have h2 : (blks (P0 ++ [a]) ++ blks (b :: Q0)).Nodup := by simpa [blks, List.append_assoc] using hn
        have h3 := (List.nodup_append.1 h2).2.2
        intro z h4 h5; exact h3 z h4 z h5 rfl
      have hbn : b.m ∉ blks Q0 := by
        have h2 : (blks (P0 ++ [a]) ++ blks (b :: Q0)).Nodup := by simpa [blks, List.append_assoc] using hn
        exact (List.nodup_cons.1 (show (b.m :: blks Q0).Nodup from (List.nodup_append.1 h2).2.1)).1
      have hcb : c ≠ b.m := fun e => hc (by simp [blks, e])
      have hQb := hQ.cells
      refine (join_both c o a.m b.m w hab ⟨_, cell_blk hPa 9 _ rfl⟩ (free_blk hPa _) ⟨_, cell_blk hQb 8 _ rfl⟩ (free_blk hQb _)).mono ?_
      rintro e w' ⟨rfl, rfl⟩
      have h1 := (hP.set_behind han (some b.ad)).set_other ⟨b.m, 8, none⟩ (fun hz => hdis b.m hz (by simp [blks])) (.pointer (some a.ad))
      have h2 := (hQ.set_other ⟨a.m, 9, none⟩ (hdis a.m (by simp [blks])) (.pointer (some b.ad))).set_ahead hbn (some a.ad)
      refine ⟨rfl, (seg_append _ _ _ _ _).2 ⟨h1, ?_⟩, ((hH.other ⟨a.m, 9, none⟩ (fun e => hca e.symm) _).other ⟨b.m, 8, none⟩ (fun e => hcb e.symm) _), ((Fr.refl _ w).setCell _ (.inl (by simp [blks])) _).setCell _ (.inl (by simp [blks])) _, hsz _ _ _ _⟩
      rw [lst_snoc]; exact h2

end Go.Proofs.YtlojgpkajkedeaaGreatDoor
/- Chains: Append, InsertBehind, Remove, TakeBetween. -/
namespace Go.Proofs.YtlojgpkajkedeaaGreatDoor
open Go.RowKit

/-- A chain in memory. -/
structure Ch (w : World) (c o T : Nat) (cs : List Value) (l : List Mem) : Prop where
  seg : Seg w none l none
  hdr : Hdr w c o T cs (hd l none) (lst l none)
  nodup : (blks l).Nodup
  out : c ∉ blks l
theorem Ch.lt {w : World} {c o T : Nat} {cs : List Value} {l : List Mem} (h : Ch w c o T cs l) : c < w.heap.size := (Array.getElem?_eq_some_iff.1 h.hdr.1).1
theorem Ch.mlt {w : World} {c o T : Nat} {cs : List Value} {l : List Mem} (h : Ch w c o T cs l) (x : Nat) (hx : x ∈ blks l) : x < w.heap.size := by
  obtain ⟨e, he, rfl⟩ := List.mem_map.1 hx; exact h.seg.lt e he
theorem Ch.move {w w' : World} {c o T : Nat} {cs : List Value} {l : List Mem} (h : Ch w c o T cs l) (hw : ∀ x ∈ c :: blks l, w'.heap[x]? = w.heap[x]?) : Ch w' c o T cs l :=
  ⟨h.seg.move (fun e he => hw e.m (by simp [blks]; exact .inr ⟨e, he, rfl⟩)), h.hdr.move (hw c (by simp)), h.nodup, h.out⟩
/-- A part as a value. -/
def partV (p : Pt) (kf kl : Option Addr) : Value := .agg #[.int .i64 p.kind, .string (S.B p.info), .string (S.B p.text), .pointer kf, .pointer kl, .int .i64 (p.rs : Nat), .bool p.ro, .bool p.rc]

set_option maxRecDepth 100000 in
set_option maxHeartbeats 2000000 in
theorem append_any (c o T : Nat) (cs : List Value) (l : List Mem) (p : Pt) (kf kl : Option Addr) (w : World) (h : Ch w c o T cs l) :
    Calls Tryz.prog 196 #[.pointer (some ⟨c, o, none⟩), partV p kf kl] w fun e w' =>
      e = .returned (.pointer (some ⟨w.heap.size + 1, 0, none⟩)) ∧ Ch w' c o T cs (l ++ [⟨w.heap.size + 1, p, kf, kl⟩]) ∧ Fr (c :: blks l) w w' ∧ w.heap.size + 2 = w'.heap.size := by
  have hcl := h.lt
  obtain ⟨e, he⟩ : ∃ e : Mem, e = ⟨w.heap.size + 1, p, kf, kl⟩ := ⟨_, rfl⟩
  have hem : e.m = w.heap.size + 1 := by rw [he]
  obtain ⟨w2, hw2⟩ : ∃ w2, w2 = (w.alloc (.cells #[.int .i64 p.kind, .string (S.B p.info), .string (S.B p.text), .pointer kf, .pointer kl, .int .i64 (p.rs : Nat), .bool p.ro, .bool p.rc] 177)).alloc (.cells #[.int .i64 p.kind, .string (S.B p.info), .string (S.B p.text), .pointer kf, .pointer kl, .int .i64 (p.rs : Nat), .bool p.ro, .bool p.rc, .pointer none, .pointer none] 179) := ⟨_, rfl⟩
  have hs1 : ∀ ob, (w.alloc ob).heap.size = w.heap.size + 1 := by intro ob; simp
  have hs2 : w2.heap.size = w.heap.size + 2 := by rw [hw2]; simp
  have hf2 : Fr (c :: blks l) w w2 := by rw [hw2]; exact ((Fr.refl _ w).alloc _).alloc _
  have hb2 : ∀ x, x < w.heap.size → w2.heap[x]? = w.heap[x]? := by
    intro x hx; rw [hw2, Below.heap_alloc _ _ _ (by rw [hs1]; omega), Below.heap_alloc _ _ _ hx]
  have hCh2 : Ch w2 c o T cs l := h.move (fun x hx => hb2 x (by simp at hx; rcases hx with rfl | hx; exact hcl; exact h.mlt x hx))
  have hE2 : Seg w2 none [e] none := ⟨by rw [hem, he, hw2, ← hs1]; exact alloc_new _ _, trivial⟩
  have hfr : ∀ x ∈ blks l, x ≠ e.m := fun x hx => by have := h.mlt x hx; omega
  have hnd : (blks (l ++ [e])).Nodup := by
    have : blks (l ++ [e]) = blks l ++ [e.m] := by simp [blks]
    rw [this, List.nodup_append]
    exact ⟨h.nodup, by simp, fun a ha b hb => by simp at hb; subst hb; exact hfr a ha⟩
  have hcn : c ∉ blks (l ++ [e]) := by
    have : blks (l ++ [e]) = blks l ++ [e.m] := by simp [blks]
    rw [this, List.mem_append, not_or]; exact ⟨h.out, by simp; omega⟩
  have hJ1 := hid (join_seam c o T cs _ _ l [e] none none none none w2 hCh2.seg hE2 hnd hcn hCh2.hdr (fun _ => rfl) (fun h => by simp at h))
  have q1 := h.hdr.cellL
  have hcl0 : ¬ c = w.heap.size := by omega
  have hcl1 : ¬ c = w.heap.size + 1 := by omega
  have hde : hd [e] none = some (⟨w.heap.size + 1, 0, none⟩ : Addr) := by show some (⟨e.m, 0, none⟩ : Addr) = _; rw [hem]
  rw [hde] at hJ1
  have hw2H := hid hw2
  have hfirst : (if l = [] then (some (⟨w.heap.size + 1, 0, none⟩ : Addr)) else hd l none) = hd (l ++ [e]) none := by
    cases l with
    | nil => simp [hd, Mem.ad, hem]
    | cons x r => rfl
  rw [hfirst] at hJ1
  rw [if_neg (by simp : ¬ ([e] = []))] at hJ1
  have hJ2 := hid (fun (w3 : World) (h1 : Seg w3 none (l ++ [e]) none) (h2 : Hdr w3 c o T cs (hd (l ++ [e]) none) (lst l none)) => join_seam c o T cs _ _ (l ++ [e]) [] none none none none w3 h1 trivial (by rw [List.append_nil]; exact hnd) (by rw [List.append_nil]; exact hcn) h2 (fun _ => rfl) (fun _ => rfl))
  rw [lst_snoc] at hJ2
  have hne : ¬ (l ++ [e] = []) := by simp
  have hadd : e.ad = (⟨w.heap.size + 1, 0, none⟩ : Addr) := by show (⟨e.m, 0, none⟩ : Addr) = _; rw [hem]
  simp only [List.append_nil, if_neg hne, hadd, if_pos] at hJ2
  have hblk : blks (l ++ [e]) = blks l ++ [w.heap.size + 1] := by simp [blks, hem]
  rw [hblk] at hJ1 hJ2
  have heH := hid he
  have hndH := hid hnd
  have hcnH := hid hcn
  have hf2H := hid hf2
  have hs2H := hid hs2
  clear hs1 hs2 hf2 hb2 hCh2 hE2 hfr hnd hcn hde hfirst hne hem hw2 he
  unfold partV
  go_enter Tryz.func196, Tryz.ntmps196
  go_wp2_with fail
  rw [← hw2H.out]
  refine hJ1.out.mono ?_
  rintro e1 w3 ⟨rfl, hs3, hh3, hf3, hz3⟩
  have hJJ := hid (hJ2.out w3 hs3 hh3)
  have hf3H := hid hf3
  have hz3H := hid hz3
  clear hs3 hh3 hf3 hz3
  go_wp2_with fail
  refine hJJ.out.mono ?_
  rintro e2 w4 ⟨rfl, hs4, hh4, hf4, hz4⟩
  have h4 := hid (And.intro hs4 (And.intro hh4 (And.intro hf4 hz4)))
  clear hs4 hh4 hf4 hz4
  go_wp2
  go_ret
  obtain ⟨hs4, hh4, hf4, hz4⟩ := h4.out
  rw [← heH.out]
  refine ⟨rfl, ⟨hs4, ?_, hndH.out, hcnH.out⟩, ?_, ?_⟩
  · rw [lst_snoc, hadd]; exact hh4
  · have hl : ∀ x ∈ c :: (blks l ++ [w.heap.size + 1]), x ∈ c :: blks l ∨ w.heap.size ≤ x := by
      intro x hx; simp at hx ⊢; rcases hx with h | h | h
      · exact .inl (.inl h)
      · exact .inl (.inr h)
      · exact .inr (by omega)
    exact (hf2H.out.trans hf3H.out hl).trans hf4 hl
  · have := hs2H.out; have := hz3H.out; omega

theorem blks_append (l r : List Mem) : blks (l ++ r) = blks l ++ blks r := by simp [blks]
theorem nodup_ins {P Q : List Nat} {a e : Nat} (h : (P ++ a :: Q).Nodup) (he : ∀ x ∈ P ++ a :: Q, x ≠ e) : (P ++ a :: e :: Q).Nodup := by
  have h2 := List.nodup_append.1 h
  have h3 := List.nodup_cons.1 h2.2.1
  rw [List.nodup_append]
  refine ⟨h2.1, ?_, ?_⟩
  · rw [List.nodup_cons, List.nodup_cons]
    refine ⟨?_, ?_, h3.2⟩
    · intro hm; simp at hm; rcases hm with hm | hm
      · exact he a (by simp) hm
      · exact h3.1 hm
    · intro hm; exact he e (by simp [hm]) rfl
  · intro x hx y hy e1
    simp at hy
    rcases hy with hy | hy | hy
    · exact h2.2.2 x hx a (by simp) (e1.trans hy)
    · exact he x (by simp [hx]) (e1.trans hy)
    · exact h2.2.2 x hx y (by simp [hy]) e1

set_option maxRecDepth 100000 in
set_option maxHeartbeats 2000000 in
theorem insert_any (c o T : Nat) (cs : List Value) (P Q : List Mem) (a : Mem) (p : Pt) (kf kl : Option Addr) (w : World) (h : Ch w c o T cs (P ++ a :: Q)) :
    Calls Tryz.prog 244 #[.pointer (some ⟨c, o, none⟩), .pointer (some ⟨a.m, 0, none⟩), partV p kf kl] w fun e w' =>
      e = .returned (.pointer (some ⟨w.heap.size + 1, 0, none⟩)) ∧ Ch w' c o T cs (P ++ a :: ⟨w.heap.size + 1, p, kf, kl⟩ :: Q) ∧ Fr (c :: blks (P ++ a :: Q)) w w' ∧ w.heap.size + 2 = w'.heap.size := by
  have hcl := h.lt
  have hal : a.m < w.heap.size := h.mlt a.m (by simp [blks])
  obtain ⟨e, he⟩ : ∃ e : Mem, e = ⟨w.heap.size + 1, p, kf, kl⟩ := ⟨_, rfl⟩
  have hem : e.m = w.heap.size + 1 := by rw [he]
  obtain ⟨w2, hw2⟩ : ∃ w2, w2 = (w.alloc (.cells #[.int .i64 p.kind, .string (S.B p.info), .string (S.B p.text), .pointer kf, .pointer kl, .int .i64 (p.rs : Nat), .bool p.ro, .bool p.rc] 177)).alloc (.cells #[.int .i64 p.kind, .string (S.B p.info), .string (S.B p.text), .pointer kf, .pointer kl, .int .i64 (p.rs : Nat), .bool p.ro, .bool p.rc, .pointer none, .pointer none] 179) := ⟨_, rfl⟩
  have hs1 : ∀ ob, (w.alloc ob).heap.size = w.heap.size + 1 := by intro ob; simp
  have hs2 : w2.heap.size = w.heap.size + 2 := by rw [hw2]; simp
  have hf2 : Fr (c :: blks (P ++ a :: Q)) w w2 := by rw [hw2]; exact ((Fr.refl _ w).alloc _).alloc _
  have hb2 : ∀ x, x < w.heap.size → w2.heap[x]? = w.heap[x]? := by
    intro x hx; rw [hw2, Below.heap_alloc _ _ _ (by rw [hs1]; omega), Below.heap_alloc _ _ _ hx]
  have hCh2 : Ch w2 c o T cs (P ++ a :: Q) := h.move (fun x hx => hb2 x (by rcases List.mem_cons.1 hx with rfl | hx; exact hcl; exact h.mlt x hx))
  have hE2 : Seg w2 none [e] none := ⟨by rw [hem, he, hw2, ← hs1]; exact alloc_new _ _, trivial⟩
  have hbk : blks (P ++ a :: Q) = blks P ++ a.m :: blks Q := by simp [blks]
  have hbk2 : blks (P ++ a :: e :: Q) = blks P ++ a.m :: e.m :: blks Q := by simp [blks]
  have hfr : ∀ x ∈ blks P ++ a.m :: blks Q, x ≠ e.m := fun x hx => by have := h.mlt x (by rw [hbk]; exact hx); omega
  have hnd : (blks (P ++ a :: e :: Q)).Nodup := by rw [hbk2]; exact nodup_ins (by rw [← hbk]; exact h.nodup) hfr
  have hcn : c ∉ blks (P ++ a :: e :: Q) := by
    have h1 := h.out; rw [hbk] at h1; rw [hbk2]
    simp only [List.mem_append, List.mem_cons, not_or] at h1 ⊢
    exact ⟨h1.1, h1.2.1, by omega, h1.2.2⟩
  have hnd1 : (blks ([e] ++ Q)).Nodup := by
    have := (List.nodup_append.1 (show (blks P ++ a.m :: e.m :: blks Q).Nodup by rw [← hbk2]; exact hnd)).2.1
    exact (List.nodup_cons.1 this).2
  have hcn1 : c ∉ blks ([e] ++ Q) := by
    intro hm; apply hcn; rw [hbk2]; simp [blks] at hm ⊢; rcases hm with hm | hm
    · exact .inr (.inr (.inl hm))
    · exact .inr (.inr (.inr hm))
  have hsg : P ++ a :: Q = (P ++ [a]) ++ Q := by simp
  have hseg2 := hCh2.seg
  rw [hsg, seg_append] at hseg2
  have hJ1 := hid (join_seam c o T cs _ _ [e] Q none none none (lst (P ++ [a]) none) w2 hE2 hseg2.2 hnd1 hcn1 hCh2.hdr (fun h => by simp at h) (fun _ => rfl))
  have hle : lst [e] none = some (⟨w.heap.size + 1, 0, none⟩ : Addr) := by show some (⟨e.m, 0, none⟩ : Addr) = _; rw [hem]
  rw [hle, if_neg (by simp : ¬ ([e] = []))] at hJ1
  have ha9 : w.cell? ⟨a.m, 9, none⟩ = some (.pointer (hd Q none)) := by
    have hh := h.seg; rw [hsg, seg_append, seg_append] at hh
    exact cell_blk hh.1.2.cells 9 _ rfl
  have hPA := hid hseg2.1
  have hdis : ∀ x ∈ P ++ [a], x.m ∉ c :: blks ([e] ++ Q) := by
    intro x hx hm
    have hxb : x.m ∈ blks (P ++ [a]) := List.mem_map.2 ⟨x, hx, rfl⟩
    rcases List.mem_cons.1 hm with hm | hm
    · apply hcn; rw [← hm, show P ++ a :: e :: Q = (P ++ [a]) ++ ([e] ++ Q) by simp, blks_append]; exact List.mem_append_left _ hxb
    · have h2 : (blks (P ++ [a]) ++ blks ([e] ++ Q)).Nodup := by rw [← blks_append]; simpa using hnd
      exact (List.nodup_append.1 h2).2.2 x.m hxb x.m hm rfl
  have hJ2 := hid (fun (w3 : World) (lh : Option Addr) (h1 : Seg w3 none (P ++ [a]) (hd Q none)) (h1' : Seg w3 none ([e] ++ Q) none) (h2 : Hdr w3 c o T cs (hd (P ++ a :: Q) none) lh) => join_seam c o T cs _ _ (P ++ [a]) ([e] ++ Q) none none (hd Q none) none w3 h1 h1' (by simpa using hnd) (by simpa using hcn) h2 (fun h => by simp at h) (fun h => by simp at h))
  rw [lst_snoc] at hJ2
  have hde : hd ([e] ++ Q) none = some (⟨w.heap.size + 1, 0, none⟩ : Addr) := by show some (⟨e.m, 0, none⟩ : Addr) = _; rw [hem]
  simp only [hde, if_neg (show ¬ (P ++ [a] = []) by simp), if_neg (show ¬ ([e] ++ Q = []) by simp)] at hJ2
  have heq : (P ++ [a]) ++ ([e] ++ Q) = P ++ a :: e :: Q := by simp
  rw [heq] at hJ2
  have heH := hid he
  have hemH := hid hem
  have hndH := hid hnd
  have hcnH := hid hcn
  have hf2H := hid hf2
  have hs2H := hid hs2
  have hdisH := hid hdis
  have hw2H := hid hw2
  have hltP : Hid (∀ x ∈ P ++ [a], x.m < w2.heap.size) := hid (fun x hx => by have := h.mlt x.m (by rw [hsg, blks_append]; exact List.mem_append_left _ (List.mem_map.2 ⟨x, hx, rfl⟩)); omega)
  clear hs1 hs2 hf2 hb2 hCh2 hE2 hfr hnd hcn hde hle hem hw2 he hseg2 hnd1 hcn1 hdis
  have hac0 : ¬ a.m = w.heap.size := by omega
  have hac1 : ¬ a.m = w.heap.size + 1 := by omega
  unfold partV
  go_enter Tryz.func244, Tryz.ntmps244
  go_wp2_with fail
  rw [← hw2H.out]
  refine hJ1.out.mono ?_
  rintro e1 w3 ⟨rfl, hs3, hh3, hf3, hz3⟩
  have hP3 : Seg w3 none (P ++ [a]) (hd Q none) := hPA.out.move (fun x hx => hf3.block x.m (hltP.out x hx) (hdisH.out x hx))
  have hJJ := hid (hJ2.out w3 _ hP3 hs3 hh3)
  have hf3H := hid hf3
  have hz3H := hid hz3
  clear hs3 hh3 hf3 hz3 hP3
  go_wp2_with fail
  refine hJJ.out.mono ?_
  rintro e2 w4 ⟨rfl, hs4, hh4, hf4, hz4⟩
  have h4 := hid (And.intro hs4 (And.intro hh4 (And.intro hf4 hz4)))
  clear hs4 hh4 hf4 hz4
  go_wp2
  go_ret
  obtain ⟨hs4, hh4, hf4, hz4⟩ := h4.out
  rw [← heH.out]
  refine ⟨rfl, ⟨hs4, ?_, hndH.out, hcnH.out⟩, ?_, ?_⟩
  · have e1 : hd (P ++ a :: e :: Q) none = hd (P ++ a :: Q) none := by rw [hd_append, hd_append]; rfl
    have e2 : lst (P ++ a :: e :: Q) none = if Q = [] then some (⟨w.heap.size + 1, 0, none⟩ : Addr) else lst (P ++ a :: Q) none := by
      rw [lst_append, lst_append]
      cases Q with
      | nil => simp [lst, Mem.ad, hemH.out]
      | cons q r => simp [lst]
    rw [e1, e2]; exact hh4
  · have hl1 : ∀ x ∈ c :: blks ([e] ++ Q), x ∈ c :: blks (P ++ a :: Q) ∨ w.heap.size ≤ x := by
      intro x hx; have := hemH.out; simp [blks] at hx ⊢; rcases hx with h | h | ⟨y, h, h'⟩
      · exact .inl (.inl h)
      · exact .inr (by omega)
      · exact .inl (.inr (.inr (.inr ⟨y, h, h'⟩)))
    have hl2 : ∀ x ∈ c :: blks (P ++ a :: e :: Q), x ∈ c :: blks (P ++ a :: Q) ∨ w.heap.size ≤ x := by
      intro x hx; have := hemH.out; simp [blks] at hx ⊢; rcases hx with h | ⟨y, h, h'⟩ | h | h | ⟨y, h, h'⟩
      · exact .inl (.inl h)
      · exact .inl (.inr (.inl ⟨y, h, h'⟩))
      · exact .inl (.inr (.inr (.inl h)))
      · exact .inr (by omega)
      · exact .inl (.inr (.inr (.inr ⟨y, h, h'⟩)))
    exact (hf2H.out.trans hf3H.out hl1).trans hf4 hl2
  · have := hs2H.out; have := hz3H.out; omega

end Go.Proofs.YtlojgpkajkedeaaGreatDoor
/- Chains: Remove, TakeBetween. -/
namespace Go.Proofs.YtlojgpkajkedeaaGreatDoor
open Go.RowKit

theorem blks_mid (P Q : List Mem) (a : Mem) : blks (P ++ a :: Q) = blks P ++ a.m :: blks Q := by simp [blks]
theorem nodup_del {P Q : List Nat} {a : Nat} (h : (P ++ a :: Q).Nodup) : (P ++ Q).Nodup ∧ a ∉ P ++ Q := by
  have h2 := List.nodup_append.1 h
  have h3 := List.nodup_cons.1 h2.2.1
  refine ⟨List.nodup_append.2 ⟨h2.1, h3.2, fun x hx y hy => h2.2.2 x hx y (by simp [hy])⟩, ?_⟩
  intro hm; rcases List.mem_append.1 hm with hm | hm
  · exact h2.2.2 a hm a (by simp) rfl
  · exact h3.1 hm

set_option maxRecDepth 100000 in
set_option maxHeartbeats 2000000 in
theorem remove_any (c o T : Nat) (cs : List Value) (P Q : List Mem) (a : Mem) (w : World) (h : Ch w c o T cs (P ++ a :: Q)) :
    Calls Tryz.prog 209 #[.pointer (some ⟨c, o, none⟩), .pointer (some ⟨a.m, 0, none⟩)] w fun e w' =>
      e = .returned (.tuple #[]) ∧ Ch w' c o T cs (P ++ Q) ∧ Fr (c :: blks (P ++ a :: Q)) w w' ∧ w.heap.size = w'.heap.size := by
  have hseg := h.seg
  rw [seg_append] at hseg
  have hA := hseg.2.cells
  have a8 : w.cell? ⟨a.m, 8, none⟩ = some (.pointer (lst P none)) := cell_blk hA 8 _ rfl
  have a9 : w.cell? ⟨a.m, 9, none⟩ = some (.pointer (hd Q none)) := cell_blk hA 9 _ rfl
  have hnn := nodup_del (by rw [← blks_mid]; exact h.nodup)
  have hcn : c ∉ blks (P ++ Q) ∧ c ≠ a.m := by
    have h1 := h.out; rw [blks_mid] at h1; rw [blks_append]
    simp only [List.mem_append, List.mem_cons, not_or] at h1 ⊢
    exact ⟨⟨h1.1, h1.2.2⟩, h1.2.1⟩
  have hal : a.m < w.heap.size := h.mlt a.m (by simp [blks])
  have hac : a.m ∉ c :: blks (P ++ Q) := by
    rw [List.mem_cons, not_or]; exact ⟨fun e => hcn.2 e.symm, by rw [blks_append]; exact hnn.2⟩
  have hJ := hid (fun (wx : World) (hx : wx.heap = w.heap) => join_seam c o T cs (hd (P ++ a :: Q) none) (lst (P ++ a :: Q) none) P Q none none (hd (a :: Q) none) (some a.ad) wx (hseg.1.move (fun e _ => by rw [hx])) (hseg.2.2.move (fun e _ => by rw [hx])) (by rw [blks_append]; exact hnn.1) hcn.1 (h.hdr.move (by rw [hx])) (fun _ => rfl) (fun _ => rfl))
  have e1 : (if P = [] then hd Q none else hd (P ++ a :: Q) none) = hd (P ++ Q) none := by
    cases P with
    | nil => rfl
    | cons x r => rfl
  have e2 : (if Q = [] then lst P none else lst (P ++ a :: Q) none) = lst (P ++ Q) none := by
    cases Q with
    | nil => simp
    | cons x r => rw [if_neg (by simp), lst_append, lst_append]; rfl
  simp only [e1, e2] at hJ
  have hAH := hid hA
  have hacH := hid hac
  have hcnH := hid hcn
  have hnnH := hid hnn
  have hsizeH := hid hal
  clear e1 e2 hseg hA hac hcn hnn
  go_enter Tryz.func209, Tryz.ntmps209
  go_wp2_with fail
  go_region_held3 (fun w' => w'.cell? ⟨a.m, 8, none⟩ = some (.pointer (lst P none)) ∧ w'.cell? ⟨a.m, 9, none⟩ = some (.pointer (hd Q none)))
    ((refine ⟨?_, ?_⟩ <;> assumption))
    ((go_at_call 230; refine (hJ.out w.drew rfl).mono ?_; rintro e1 w1 ⟨rfl, hs1, hh1, hf1, hz1⟩; have hA1 := (hf1.block a.m hsizeH.out hacH.out).trans hAH.out; have k8 : w1.cell? ⟨a.m, 8, none⟩ = some (.pointer (lst P none)) := cell_blk hA1 8 _ rfl; have k9 : w1.cell? ⟨a.m, 9, none⟩ = some (.pointer (hd Q none)) := cell_blk hA1 9 _ rfl))
  have f1 := free_blk hA1
  have hall := hid (And.intro hs1 (And.intro hh1 (And.intro hf1 hz1)))
  clear hs1 hh1 hf1 hz1 hA1
  go_wp2
  go_end0
  obtain ⟨hs1, hh1, hf1, hz1⟩ := hall.out
  have hna : a.m ∉ blks (P ++ Q) := fun hm => hacH.out (List.mem_cons_of_mem _ hm)
  refine ⟨rfl, ⟨?_, ?_, by rw [blks_append]; exact hnnH.out.1, hcnH.out.1⟩, ?_, ?_⟩
  · exact (hs1.set_other _ hna _).set_other _ hna _
  · exact (hh1.other ⟨a.m, 8, none⟩ (fun e => hcnH.out.2 e.symm) _).other ⟨a.m, 9, none⟩ (fun e => hcnH.out.2 e.symm) _
  · have hl : ∀ x ∈ c :: blks (P ++ Q), x ∈ c :: blks (P ++ a :: Q) ∨ w.heap.size ≤ x := by
      intro x hx; rw [blks_mid]; rw [blks_append] at hx; simp at hx ⊢; rcases hx with h | h | h
      · exact .inl (.inl h)
      · exact .inl (.inr (.inl h))
      · exact .inl (.inr (.inr (.inr h)))
    exact ((((Fr.refl _ w).drew).trans hf1 hl).setCell _ (.inl (by simp [blks])) _).setCell _ (.inl (by simp [blks])) _
  · have e : ∀ (a b : Addr) (u v : Value), ((w1.setCell a u).setCell b v).heap.size = w1.heap.size := fun a b u v => by simp [World.setCell]
    rw [e]; exact hz1

theorem Tryz.infoMem : (Tryz.prog.info? 179).map (fun i => i.size) = some 10 := by kernel_rfl
theorem ptr_same (a : Addr) (w : World) : (binOp .eql 133 (.pointer (some a)) (.pointer (some a))).run Tryz.prog w = .ok (.bool true) w := by
  obtain ⟨j, hj, _⟩ := Option.map_eq_some_iff.1 Tryz.infoMem
  have h : ∀ d : Nat, (Op.equalIn (d + 1) 133 (.pointer (some a)) (.pointer (some a))).run Tryz.prog w = .ok true w := fun d => by
    simp [Op.equalIn, run_underlying Tryz.underlying133, sizeOf, typeInfo, hj, run_sameAddr_same]
  simp only [binOp]
  simp [Op.equal, Op.maxDepth, h 9999]
theorem ptr_other (a b : Addr) (w : World) (hne : a ≠ b) {ca cb : Array Value} {ta tb : TypeId} (ha : w.heap[a.block]? = some (.cells ca ta (0, 0))) (hb : w.heap[b.block]? = some (.cells cb tb (0, 0))) : (binOp .eql 133 (.pointer (some a)) (.pointer (some b))).run Tryz.prog w = .ok (.bool false) w := by
  obtain ⟨j, hj, hz⟩ := Option.map_eq_some_iff.1 Tryz.infoMem
  have h : ∀ d : Nat, (Op.equalIn (d + 1) 133 (.pointer (some a)) (.pointer (some b))).run Tryz.prog w = .ok false w := fun d => by
    simp [Op.equalIn, run_underlying Tryz.underlying133, sizeOf, typeInfo, hj, hz, run_sameAddr_other w hne ha hb]
  simp only [binOp]
  simp [Op.equal, Op.maxDepth, h 9999]

/- Nothing stands between the two. -/
set_option maxRecDepth 100000 in
set_option maxHeartbeats 2000000 in
theorem take_none (c o : Nat) (a : Mem) (Q : List Mem) (w : World) (h9 : w.cell? ⟨a.m, 9, none⟩ = some (.pointer (hd Q none))) (hal : a.m < w.heap.size) :
    Calls Tryz.prog 238 #[.pointer (some ⟨c, o, none⟩), .pointer (some ⟨a.m, 0, none⟩), .pointer (hd Q none)] w fun e w' => e = .returned (.agg #[.pointer none, .pointer none]) ∧ Below w.heap.size w w' := by
  have hac0 : ¬ a.m = w.heap.size := by omega
  cases Q with
  | nil =>
    simp only [hd] at h9 ⊢
    go_enter Tryz.func238, Tryz.ntmps238
    go_wp2
    exact bodyPost_ret (v := .agg #[.pointer none, .pointer none]) (by simp [results, Tryz.results238, go_sem]) rfl ⟨rfl, (Below.refl _ _).alloc (Nat.le_refl _) _⟩
  | cons b r =>
    simp only [hd, Mem.ad] at h9 ⊢
    have hpe := fun wx => ptr_same ⟨b.m, 0, none⟩ wx
    go_enter Tryz.func238, Tryz.ntmps238
    go_wp2
    exact bodyPost_ret (v := .agg #[.pointer none, .pointer none]) (by simp [results, Tryz.results238, go_sem]) rfl ⟨rfl, (Below.refl _ _).alloc (Nat.le_refl _) _⟩

/- All behind a member is taken. -/
set_option maxRecDepth 100000 in
set_option maxHeartbeats 4000000 in
theorem take_end (c o T : Nat) (cs : List Value) (P M : List Mem) (a m0 : Mem) (w : World) (h : Ch w c o T cs (P ++ a :: (m0 :: M))) :
    Calls Tryz.prog 238 #[.pointer (some ⟨c, o, none⟩), .pointer (some ⟨a.m, 0, none⟩), .pointer none] w fun e w' => e = .returned (.agg #[.pointer (some ⟨m0.m, 0, none⟩), .pointer (lst (m0 :: M) none)]) ∧ Ch w' c o T cs (P ++ [a]) ∧ Seg w' none (m0 :: M) none ∧ Fr (c :: blks (P ++ a :: (m0 :: M))) w w' := by
  have hcl := h.lt
  have hseg := h.seg
  rw [seg_append] at hseg
  have hA := hseg.2.cells
  have a9 : w.cell? ⟨a.m, 9, none⟩ = some (.pointer (some ⟨m0.m, 0, none⟩)) := cell_blk hA 9 _ rfl
  obtain ⟨M0, z, hMz⟩ := snoc_of (m0 :: M) (by simp)
  have hlz : lst (m0 :: M) none = some (⟨z.m, 0, none⟩ : Addr) := by rw [hMz]; exact lst_snoc _ _ _
  have hlall : lst (P ++ a :: m0 :: M) none = some (⟨z.m, 0, none⟩ : Addr) := by rw [lst_append]; show lst (m0 :: M) (some a.ad) = _; rw [hMz]; exact lst_snoc _ _ _
  have cL : w.cell? ⟨c, o + 1, none⟩ = some (.pointer (some ⟨z.m, 0, none⟩)) := by rw [← hlall]; exact h.hdr.cellL
  have hal : a.m < w.heap.size := h.mlt a.m (by simp [blks])
  have hac0 : ¬ a.m = w.heap.size := by omega
  have hac1 : ¬ a.m = w.heap.size + 1 := by omega
  have hcl0 : ¬ c = w.heap.size := by omega
  have hcl1 : ¬ c = w.heap.size + 1 := by omega
  obtain ⟨w2, hw2⟩ : ∃ w2, w2 = ((w.alloc (.cells #[.pointer none, .pointer none] 135)).alloc (.cells #[.pointer (some ⟨m0.m, 0, none⟩), .pointer (some ⟨z.m, 0, none⟩)] 135)).drew := ⟨_, rfl⟩
  have hs1 : ∀ ob, (w.alloc ob).heap.size = w.heap.size + 1 := by intro ob; simp
  have hs2 : w2.heap.size = w.heap.size + 2 := by rw [hw2]; simp
  have hb2 : ∀ x, x < w.heap.size → w2.heap[x]? = w.heap[x]? := by
    intro x hx; rw [hw2]; show ((w.alloc _).alloc _).heap[x]? = _; rw [Below.heap_alloc _ _ _ (by rw [hs1]; omega), Below.heap_alloc _ _ _ hx]
  have hRN : Hid (w2.heap[w.heap.size]? = some (.cells #[.pointer none, .pointer none] 135 (0, 0))) := hid (by rw [hw2]; show ((w.alloc _).alloc _).heap[w.heap.size]? = _; rw [Below.heap_alloc _ _ _ (by simp)]; exact alloc_new _ _)
  have hTN : Hid (w2.heap[w.heap.size + 1]? = some (.cells #[.pointer (some ⟨m0.m, 0, none⟩), .pointer (some ⟨z.m, 0, none⟩)] 135 (0, 0))) := hid (by rw [hw2, ← hs1 (.cells #[.pointer none, .pointer none] 135)]; exact alloc_new _ _)
  have hlt : ∀ x ∈ blks (P ++ a :: m0 :: M), x < w.heap.size := h.mlt
  have hCh2 : Ch w2 c o T cs (P ++ a :: m0 :: M) := h.move (fun x hx => hb2 x (by rcases List.mem_cons.1 hx with rfl | hx; exact hcl; exact hlt x hx))
  have hsp : P ++ a :: m0 :: M = (P ++ [a]) ++ (m0 :: M) := by simp
  have hbs : blks (P ++ a :: m0 :: M) = blks (P ++ [a]) ++ blks (m0 :: M) := by rw [hsp, blks_append]
  have hnd := h.nodup
  rw [hbs] at hnd
  have hnd2 := List.nodup_append.1 hnd
  have hcn := h.out
  rw [hbs, List.mem_append, not_or] at hcn
  have hseg2 := hCh2.seg
  rw [hsp, seg_append] at hseg2
  have hMseg := hid hseg2.2
  have hJ := hid (join_seam c o T cs _ _ (P ++ [a]) [] none none (hd (m0 :: M) none) none w2 hseg2.1 trivial (by rw [List.append_nil]; exact hnd2.1) (by rw [List.append_nil]; exact hcn.1) hCh2.hdr (fun _ => rfl) (fun _ => rfl))
  rw [lst_snoc, List.append_nil, if_neg (by simp : ¬ (P ++ [a] = [])), if_pos rfl] at hJ
  have hNout : Hid (w.heap.size + 1 ∉ c :: blks (P ++ [a])) := hid (fun hm => by
    rcases List.mem_cons.1 hm with hm | hm
    · omega
    · have := hlt _ (by rw [hbs]; exact List.mem_append_left _ hm); omega)
  have hRout : Hid (w.heap.size ∉ c :: blks (P ++ [a])) := hid (fun hm => by
    rcases List.mem_cons.1 hm with hm | hm
    · omega
    · have := hlt _ (by rw [hbs]; exact List.mem_append_left _ hm); omega)
  have hMlt : Hid (∀ e ∈ m0 :: M, e.m < w2.heap.size) := hid (fun e he => by have := hlt e.m (by rw [hbs]; exact List.mem_append_right _ (List.mem_map.2 ⟨e, he, rfl⟩)); omega)
  have hMout : Hid (∀ e ∈ m0 :: M, e.m ∉ c :: blks (P ++ [a])) := hid (fun e he hm => by
    have heb : e.m ∈ blks (m0 :: M) := List.mem_map.2 ⟨e, he, rfl⟩
    rcases List.mem_cons.1 hm with hm | hm
    · exact hcn.2 (hm ▸ heb)
    · exact hnd2.2.2 e.m hm e.m heb rfl)
  have hfirst : Hid (hd (P ++ a :: m0 :: M) none = hd (P ++ [a]) none) := hid (by rw [hd_append, hd_append]; rfl)
  have hMzH := hid hMz
  have hs2H := hid hs2
  have hw2H := hid hw2
  have hnd2H := hid hnd2
  have hcnH := hid hcn
  have hf2 : Hid (Fr (c :: blks (P ++ a :: m0 :: M)) w w2) := hid (by rw [hw2]; exact (((Fr.refl _ w).alloc _).alloc _).drew)
  have hzm : z.m < w.heap.size := hlt z.m (by rw [hbs]; exact List.mem_append_right _ (List.mem_map.2 ⟨z, by rw [hMz]; simp, rfl⟩))
  have hm0l : m0.m < w.heap.size := hlt m0.m (by simp [blks])
  have hz0 : ¬ z.m = w.heap.size := by omega
  have hz1 : ¬ z.m = w.heap.size + 1 := by omega
  have hm00 : ¬ m0.m = w.heap.size := by omega
  have hm01 : ¬ m0.m = w.heap.size + 1 := by omega
  have hlzH := hid hlz
  rw [hlz]
  clear hs1 hs2 hb2 hlt hCh2 hnd hnd2 hcn hseg2 hw2 hMz hlz hlall hseg hA
  go_enter Tryz.func238, Tryz.ntmps238
  go_wp2_with fail
  go_region
  all_goals go_wp2_with fail
  rw [← hw2H.out]
  refine hJ.out.mono ?_
  rintro e1 w3 ⟨rfl, hs3, hh3, hf3, hz3⟩
  have hN3 := (hf3.block (w.heap.size + 1) (by have := hs2H.out; omega) hNout.out).trans hTN.out
  have hR3 := (hf3.block w.heap.size (by have := hs2H.out; omega) hRout.out).trans hRN.out
  have n0 : w3.cell? ⟨w.heap.size + 1, 0, none⟩ = some (.pointer (some ⟨m0.m, 0, none⟩)) := cell_blk hN3 0 _ rfl
  have n1 : w3.cell? ⟨w.heap.size + 1, 1, none⟩ = some (.pointer (some ⟨z.m, 0, none⟩)) := cell_blk hN3 1 _ rfl
  have hM3 := hMseg.out.move (fun e he => hf3.block e.m (hMlt.out e he) (hMout.out e he))
  obtain ⟨ma, mb, hm0⟩ := hM3.get m0 (by simp)
  obtain ⟨za, zb, hzb⟩ := hM3.get z (by rw [hMzH.out]; simp)
  have m8 : w3.cell? ⟨m0.m, 8, none⟩ = some (.pointer ma) := cell_blk hm0 8 _ rfl
  have mf := free_blk hm0
  have z9 : w3.cell? ⟨z.m, 9, none⟩ = some (.pointer zb) := cell_blk hzb 9 _ rfl
  have zf := free_blk hzb
  have r0 : w3.cell? ⟨w.heap.size, 0, none⟩ = some (.pointer none) := cell_blk hR3 0 _ rfl
  have r1 : w3.cell? ⟨w.heap.size, 1, none⟩ = some (.pointer none) := cell_blk hR3 1 _ rfl
  have rf := free_blk hR3
  have hall := hid (And.intro hs3 (And.intro hh3 (And.intro hf3 (And.intro hM3 (And.intro hR3 hz3)))))
  clear hs3 hh3 hf3 hz3 hN3 hR3 hM3 hm0 hzb
  go_wp2_with fail
  go_region
  go_wp2
  have hne0 : ¬ w.heap.size = m0.m := fun e => hm00 e.symm
  have hne1 : ¬ w.heap.size = z.m := fun e => hz0 e.symm
  obtain ⟨hs3, hh3, hf3, hM3, hR3, hzz⟩ := hall.out
  have hndM : (blks (m0 :: M)).Nodup := hnd2H.out.2.1
  have hm0n : m0.m ∉ blks M := (List.nodup_cons.1 (show (m0.m :: blks M).Nodup from hndM)).1
  have hzn : z.m ∉ blks M0 := by
    rw [hMzH.out, blks_append] at hndM
    intro hm; exact (List.nodup_append.1 hndM).2.2 z.m hm z.m (by simp [blks]) rfl
  have g1 := hM3.set_ahead hm0n none
  rw [hMzH.out] at g1
  have g2 := g1.set_behind hzn none
  rw [← hMzH.out] at g2
  have hzin : z.m ∈ blks (m0 :: M) := by rw [hMzH.out]; simp [blks]
  have hm0in : m0.m ∈ blks (m0 :: M) := by simp [blks]
  have hdj : ∀ x ∈ blks (m0 :: M), x ∉ blks (P ++ [a]) ∧ x ≠ c := fun x hx => ⟨fun hm => hnd2H.out.2.2 x hm x hx rfl, fun e => hcnH.out.2 (e ▸ hx)⟩
  have hRM : w.heap.size ∉ blks (m0 :: M) := fun hm => by
    obtain ⟨e, he, hem⟩ := List.mem_map.1 hm
    have h1 := h.mlt e.m (by rw [hbs]; exact List.mem_append_right _ (List.mem_map.2 ⟨e, he, rfl⟩)); omega
  have hRP : w.heap.size ∉ blks (P ++ [a]) := fun hm => hRout.out (List.mem_cons_of_mem _ hm)
  have hcR : c ≠ w.heap.size := hcl0
  have s1 := ((hs3.set_other ⟨m0.m, 8, none⟩ (hdj _ hm0in).1 (.pointer none)).set_other ⟨z.m, 9, none⟩ (hdj _ hzin).1 (.pointer none))
  have t1 := ((hh3.other ⟨m0.m, 8, none⟩ (hdj _ hm0in).2 (.pointer none)).other ⟨z.m, 9, none⟩ (hdj _ hzin).2 (.pointer none))
  have r1 := set_other (set_other hR3 ⟨m0.m, 8, none⟩ hne0 (.pointer none)) ⟨z.m, 9, none⟩ hne1 (.pointer none)
  have r2 := set_blk (set_blk (cs := [.pointer none, .pointer none]) r1 0 (.pointer (some ⟨m0.m, 0, none⟩))) 1 (.pointer (some ⟨z.m, 0, none⟩))
  have y0 := cell_blk r2 0 _ rfl
  have y1 := cell_blk r2 1 _ rfl
  refine bodyPost_ret (v := .agg #[.pointer (some ⟨m0.m, 0, none⟩), .pointer (some ⟨z.m, 0, none⟩)]) (by simp [results, Tryz.results238, go_sem, y0, y1]) rfl ⟨rfl, ⟨?_, ?_, hnd2H.out.1, hcnH.out.1⟩, ?_, ?_⟩
  · exact ((s1.set_other ⟨w.heap.size, 0, none⟩ hRP _).set_other ⟨w.heap.size, 1, none⟩ hRP _).move (fun _ _ => rfl)
  · rw [lst_snoc, ← hfirst.out]
    exact (t1.other ⟨w.heap.size, 0, none⟩ (fun e => hcR e.symm) _).other ⟨w.heap.size, 1, none⟩ (fun e => hcR e.symm) _
  · exact ((g2.set_other ⟨w.heap.size, 0, none⟩ hRM _).set_other ⟨w.heap.size, 1, none⟩ hRM _).move (fun _ _ => rfl)
  · have hl : ∀ x ∈ c :: blks (P ++ [a]), x ∈ c :: blks (P ++ a :: m0 :: M) ∨ w.heap.size ≤ x := by
      intro x hx; rw [hbs]; simp only [List.mem_cons, List.mem_append] at hx ⊢
      rcases hx with hx | hx
      · exact .inl (.inl hx)
      · exact .inl (.inr (.inl hx))
    have hin : ∀ x ∈ blks (m0 :: M), x ∈ c :: blks (P ++ a :: m0 :: M) := fun x hx => List.mem_cons_of_mem _ (by rw [hbs]; exact List.mem_append_right _ hx)
    exact (((((hf2.out.trans hf3 hl).setCell ⟨m0.m, 8, none⟩ (.inl (hin _ hm0in)) _).setCell ⟨z.m, 9, none⟩ (.inl (hin _ hzin)) _).setCell ⟨w.heap.size, 0, none⟩ (.inr (Nat.le_refl _)) _).setCell ⟨w.heap.size, 1, none⟩ (.inr (Nat.le_refl _)) _).drew

end Go.Proofs.YtlojgpkajkedeaaGreatDoor
