import Derived.Test.YtpoaadfkalnjgaaGreatDoorC1
import Derived.Deep.QuietTactic
import Derived.BigQuiet
import Derived.Deep.RegionHeld3
namespace Go.Proofs.YtpoaadfkalnjgaaGreatDoor
open Go.RowKit

/-- The cells of a cutter at the content a, and of a part that is that text. -/
def cutA (f a : Int) (p : Option Addr) : List Value := [.string ⟨#[97]⟩, .int .i64 f, .int .i64 a, .pointer p, .pointer p, .slice none 0 0]
def partA : Array Value := #[.int .i64 8, .string ⟨#[]⟩, .string ⟨#[97]⟩, .pointer none, .pointer none, .int .i64 0, .bool false, .bool false, .pointer none, .pointer none]

set_option maxHeartbeats 2000000 in
theorem skip_A (C : Nat) (w : World) (hCl : C < w.heap.size) (hC : w.heap[C]? = some (.cells (cutA 0 1 none).toArray 105 (0, 0))) :
    Calls Tryz.prog 96 #[.pointer (some ⟨C, 0, none⟩), .int .i64 0] w fun e w' =>
      e = .returned (.tuple #[]) ∧ ∃ m, C < m ∧ m < w'.heap.size ∧ w'.heap[C]? = some (.cells (cutA 1 1 (some ⟨m, 0, none⟩)).toArray 105 (0, 0)) ∧ w'.heap[m]? = some (.cells partA 100 (0, 0)) ∧ Below C w w' := by
  have q0 : w.cell? ⟨C, 0, none⟩ = some (.string ⟨#[97]⟩) := cell_blk hC 0 _ rfl
  have q1 : w.cell? ⟨C, 1, none⟩ = some (.int .i64 0) := cell_blk hC 1 _ rfl
  have q2 : w.cell? ⟨C, 2, none⟩ = some (.int .i64 1) := cell_blk hC 2 _ rfl
  have hA := hid (fun (wx : World) (hx : wx.heap = w.heap) => append_empty C 3 (cutA 0 1 none) 105 8 0 ⟨#[]⟩ ((⟨#[97]⟩ : ByteArray).extract 0 1) none none false false wx (by rw [hx]; exact hCl) (by rw [hx]; exact hC) (.pointer none) rfl rfl)
  clear hC
  go_enter Tryz.func96, Tryz.ntmps96
  go_wp2_with fail
  go_region
  go_wp2_with fail
  go_region_held3 (fun w' => w'.cell? ⟨C, 0, none⟩ = some (.string ⟨#[97]⟩) ∧ w'.cell? ⟨C, 1, none⟩ = some (.int .i64 0) ∧ w'.cell? ⟨C, 2, none⟩ = some (.int .i64 1))
    ((refine ⟨?_, ?_, ?_⟩ <;> assumption))
    ((go_at_call 139; refine (hA.out w.drew.drew rfl).mono ?_; rintro e w1 ⟨rfl, hC1, hM1, hb1, hs1⟩; have k0 : w1.cell? ⟨C, 0, none⟩ = some (.string ⟨#[97]⟩) := cell_blk hC1 0 _ rfl; have k1 : w1.cell? ⟨C, 1, none⟩ = some (.int .i64 0) := cell_blk hC1 1 _ rfl; have k2 : w1.cell? ⟨C, 2, none⟩ = some (.int .i64 1) := cell_blk hC1 2 _ rfl))
  have f1 := free_blk hC1 1
  have f2 := free_blk hC1 2
  have hC1H := hid hC1
  have hM1H := hid hM1
  have hb1H := hid hb1
  have hs1H := hid hs1
  clear hC1 hM1 hb1 hs1
  go_wp2
  go_end0
  have hne : ¬ w.heap.size + 1 = C := by omega
  refine ⟨rfl, w.heap.size + 1, by omega, ?_, ?_, ?_, ?_⟩
  · have := hs1H.out; simp [World.setCell] at this ⊢; omega
  · exact set_blk (set_blk hC1H.out 2 _) 1 _
  · have hx : (⟨#[97]⟩ : ByteArray).extract 0 1 = ⟨#[97]⟩ := by rfl
    rw [hx] at hM1H
    exact set_other (set_other hM1H.out _ (by simpa using hne) _) _ (by simpa using hne) _
  · exact Below.setCell (Below.setCell (((Below.refl _ _).drew.drew).trans hb1H.out) (Nat.le_refl C) _) (Nat.le_refl C) _

end Go.Proofs.YtpoaadfkalnjgaaGreatDoor
