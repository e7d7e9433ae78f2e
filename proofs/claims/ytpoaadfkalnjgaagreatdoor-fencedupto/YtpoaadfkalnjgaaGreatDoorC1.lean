import Derived.Test.YtpoaadfkalnjgaaGreatDoorW7
import Derived.WalkKit
import Derived.WalkSpells
import Derived.WalkLawsBesides
import Derived.WalkMore
import Derived.ScopeJumps
import Derived.Below
import Derived.RegionTactic
import Derived.Deep.DeepCutAuto
namespace Go.Proofs.YtpoaadfkalnjgaaGreatDoor
open Go.RowKit
set_option maxHeartbeats 1000000 in
theorem first_any (c o : Nat) (v : Value) (w : World) (h0 : w.cell? ⟨c, o, none⟩ = some v) (hv : ∃ a, v = .pointer a) :
    Calls Tryz.prog 58 #[.pointer (some ⟨c, o, none⟩)] w fun e w' => e = .returned v ∧ w = w' := by
  obtain ⟨a, rfl⟩ := hv
  go_enter Tryz.func58, Tryz.ntmps58
  go_wp2
  go_ret
  exact ⟨rfl, rfl⟩

set_option maxHeartbeats 1000000 in
theorem behind_any (m : Nat) (v : Value) (w : World) (h0 : w.cell? ⟨m, 9, none⟩ = some v) (hv : ∃ a, v = .pointer a) :
    Calls Tryz.prog 59 #[.pointer (some ⟨m, 0, none⟩)] w fun e w' => e = .returned v ∧ w = w' := by
  obtain ⟨a, rfl⟩ := hv
  go_enter Tryz.func59, Tryz.ntmps59
  go_wp2
  go_ret
  exact ⟨rfl, rfl⟩

set_option maxHeartbeats 1000000 in
theorem join_first (c o m : Nat) (w : World) (hne : c ≠ m) (h0 : ∃ v, w.cell? ⟨c, o, none⟩ = some v) (f0 : w.frozen? ⟨c, o, none⟩ = false) (h1 : ∃ v, w.cell? ⟨m, 8, none⟩ = some v) (f1 : w.frozen? ⟨m, 8, none⟩ = false) :
    Calls Tryz.prog 171 #[.pointer (some ⟨c, o, none⟩), .pointer none, .pointer (some ⟨m, 0, none⟩)] w fun e w' => e = .returned (.tuple #[]) ∧ (w.setCell ⟨c, o, none⟩ (.pointer (some ⟨m, 0, none⟩))).setCell ⟨m, 8, none⟩ (.pointer none) = w' := by
  obtain ⟨v0, h0⟩ := h0
  obtain ⟨v1, h1⟩ := h1
  have hne' : m ≠ c := fun h => hne h.symm
  go_enter Tryz.func171, Tryz.ntmps171
  go_wp2
  go_end0
  exact ⟨rfl, rfl⟩

set_option maxHeartbeats 1000000 in
theorem join_last (c o m : Nat) (w : World) (hne : c ≠ m) (h0 : ∃ v, w.cell? ⟨c, o + 1, none⟩ = some v) (f0 : w.frozen? ⟨c, o + 1, none⟩ = false) (h1 : ∃ v, w.cell? ⟨m, 9, none⟩ = some v) (f1 : w.frozen? ⟨m, 9, none⟩ = false) :
    Calls Tryz.prog 171 #[.pointer (some ⟨c, o, none⟩), .pointer (some ⟨m, 0, none⟩), .pointer none] w fun e w' => e = .returned (.tuple #[]) ∧ (w.setCell ⟨m, 9, none⟩ (.pointer none)).setCell ⟨c, o + 1, none⟩ (.pointer (some ⟨m, 0, none⟩)) = w' := by
  obtain ⟨v0, h0⟩ := h0
  obtain ⟨v1, h1⟩ := h1
  have hne' : m ≠ c := fun h => hne h.symm
  go_enter Tryz.func171, Tryz.ntmps171
  go_wp2
  go_end0
  exact ⟨rfl, rfl⟩


set_option maxHeartbeats 2000000 in
theorem append_empty (C o : Nat) (cs : List Value) (T : Nat) (k z : Int) (info text : ByteArray) (f l : Option Addr) (op cl : Bool) (w : World) (hCl : C < w.heap.size) (hC : w.heap[C]? = some (.cells cs.toArray T (0, 0))) (v0 : Value) (h0 : cs[o]? = some v0) (h1 : cs[o + 1]? = some (.pointer none)) :
    Calls Tryz.prog 139 #[.pointer (some ⟨C, o, none⟩), .agg #[.int .i64 k, .string info, .string text, .pointer f, .pointer l, .int .i64 z, .bool op, .bool cl]] w fun e w' =>
      e = .returned (.pointer (some ⟨w.heap.size + 1, 0, none⟩)) ∧ w'.heap[C]? = some (.cells ((cs.set o (.pointer (some ⟨w.heap.size + 1, 0, none⟩))).set (o + 1) (.pointer (some ⟨w.heap.size + 1, 0, none⟩))).toArray T (0, 0)) ∧
      w'.heap[w.heap.size + 1]? = some (.cells #[.int .i64 k, .string info, .string text, .pointer f, .pointer l, .int .i64 z, .bool op, .bool cl, .pointer none, .pointer none] 100 (0, 0)) ∧ Below C w w' ∧ w.heap.size + 2 = w'.heap.size := by
  have q0 := cell_blk hC o v0 (by simpa using h0)
  have q1 := cell_blk hC (o + 1) _ (by simpa using h1)
  have g0 := free_blk hC
  obtain ⟨w2, hw2⟩ : ∃ w2, w2 = (w.alloc (.cells #[.int .i64 k, .string info, .string text, .pointer f, .pointer l, .int .i64 z, .bool op, .bool cl] 98)).alloc (.cells #[.int .i64 k, .string info, .string text, .pointer f, .pointer l, .int .i64 z, .bool op, .bool cl, .pointer none, .pointer none] 100) := ⟨_, rfl⟩
  have hM : w2.heap[w.heap.size + 1]? = some (.cells [.int .i64 k, .string info, .string text, .pointer f, .pointer l, .int .i64 z, .bool op, .bool cl, .pointer none, .pointer none].toArray 100 (0, 0)) := by
    have hs : (w.alloc (.cells #[.int .i64 k, .string info, .string text, .pointer f, .pointer l, .int .i64 z, .bool op, .bool cl] 98)).heap.size = w.heap.size + 1 := by simp
    rw [hw2, ← hs]; exact alloc_new _ _
  have hb2 : Below w.heap.size w w2 := by rw [hw2]; exact ((Below.refl _ _).alloc (Nat.le_refl _) _).alloc (by simp) _
  have hsz2 : w.heap.size + 2 = w2.heap.size := by rw [hw2]; simp
  have hC2 : w2.heap[C]? = some (.cells cs.toArray T (0, 0)) := (hb2.block C hCl).trans hC
  have hJ1 := hid (join_first C o (w.heap.size + 1) w2 (by omega) ⟨_, cell_blk hC2 o v0 (by simpa using h0)⟩ (free_blk hC2 _) ⟨_, cell_blk hM 8 _ rfl⟩ (free_blk hM _))
  have hC3 := set_other (set_blk hC2 o (.pointer (some ⟨w.heap.size + 1, 0, none⟩))) ⟨w.heap.size + 1, 8, none⟩ (by show C ≠ w.heap.size + 1; omega) (.pointer none)
  have hM3 := set_blk (set_other hM ⟨C, o, none⟩ (by show w.heap.size + 1 ≠ C; omega) (.pointer (some ⟨w.heap.size + 1, 0, none⟩))) 8 (.pointer none)
  obtain ⟨w3, hw3⟩ : ∃ w3, w3 = (w2.setCell ⟨C, o, none⟩ (.pointer (some ⟨w.heap.size + 1, 0, none⟩))).setCell ⟨w.heap.size + 1, 8, none⟩ (.pointer none) := ⟨_, rfl⟩
  have hb3 : Below C w w3 := by rw [hw3]; exact Below.setCell (Below.setCell (p := ⟨C, o, none⟩) (hb2.mono (Nat.le_of_lt hCl)) (Nat.le_refl C) _) (by show C ≤ w.heap.size + 1; omega) _
  have hsz3 : w.heap.size + 2 = w3.heap.size := by rw [hw3]; simp [World.setCell]; exact hsz2
  rw [← hw3] at hJ1 hC3 hM3
  have hJ2 := hid (join_last C o (w.heap.size + 1) w3 (by omega) ⟨_, cell_blk hC3 (o + 1) (.pointer none) (by simp; exact h1)⟩ (free_blk hC3 _) ⟨_, cell_blk hM3 9 _ rfl⟩ (free_blk hM3 _))
  have hC4 := set_blk (set_other hC3 ⟨w.heap.size + 1, 9, none⟩ (by show C ≠ w.heap.size + 1; omega) (.pointer none)) (o + 1) (.pointer (some ⟨w.heap.size + 1, 0, none⟩))
  have hM4 := set_other (set_blk hM3 9 (.pointer none)) ⟨C, o + 1, none⟩ (by show w.heap.size + 1 ≠ C; omega) (.pointer (some ⟨w.heap.size + 1, 0, none⟩))
  have hb4 : Below C w ((w3.setCell ⟨w.heap.size + 1, 9, none⟩ (.pointer none)).setCell ⟨C, o + 1, none⟩ (.pointer (some ⟨w.heap.size + 1, 0, none⟩))) := Below.setCell (Below.setCell hb3 (by show C ≤ w.heap.size + 1; omega) _) (Nat.le_refl C) _
  have hsz4 : w.heap.size + 2 = ((w3.setCell ⟨w.heap.size + 1, 9, none⟩ (.pointer none)).setCell ⟨C, o + 1, none⟩ (.pointer (some ⟨w.heap.size + 1, 0, none⟩))).heap.size := by simp [World.setCell]; exact hsz3
  have hall := hid (And.intro hC4 (And.intro hM4 (And.intro hb4 hsz4)))
  have hcl : ¬ C = w.heap.size := by omega
  have hcl1 : ¬ C = w.heap.size + 1 := by omega
  clear hC2 hC3 hM hM3 hb2 hb3 hC4 hM4 hb4 hsz2 hsz3 hsz4 hw3
  have hw2H := hid hw2
  clear hw2
  go_enter Tryz.func139, Tryz.ntmps139
  go_wp2_with fail
  rw [← hw2H.out]
  refine hJ1.out.mono ?_
  rintro e w' ⟨rfl, rfl⟩
  go_wp2_with fail
  refine hJ2.out.mono ?_
  rintro e w' ⟨rfl, rfl⟩
  go_wp2
  go_ret
  exact ⟨rfl, hall.out⟩

end Go.Proofs.YtpoaadfkalnjgaaGreatDoor
