import Derived.Test.YtpoaadfkalnjgaaGreatDoorC2
namespace Go.Proofs.YtpoaadfkalnjgaaGreatDoor
open Go.RowKit

set_option maxRecDepth 100000 in
set_option maxHeartbeats 2000000 in
theorem cut_A (C : Nat) (w : World) (hCl : C < w.heap.size) (hC : w.heap[C]? = some (.cells (cutA 0 0 none).toArray 105 (0, 0))) :
    Calls Tryz.prog 60 #[.pointer (some ⟨C, 0, none⟩)] w fun e w' =>
      e = .returned (.tuple #[]) ∧ ∃ m, C < m ∧ m < w'.heap.size ∧ w'.heap[C]? = some (.cells (cutA 1 1 (some ⟨m, 0, none⟩)).toArray 105 (0, 0)) ∧ w'.heap[m]? = some (.cells partA 100 (0, 0)) ∧ Below C w w' := by
  have q0 : w.cell? ⟨C, 0, none⟩ = some (.string ⟨#[97]⟩) := cell_blk hC 0 _ rfl
  have q1 : w.cell? ⟨C, 1, none⟩ = some (.int .i64 0) := cell_blk hC 1 _ rfl
  have q2 : w.cell? ⟨C, 2, none⟩ = some (.int .i64 0) := cell_blk hC 2 _ rfl
  have f0 := free_blk hC 2
  have hb : (({ data := #[97] } : ByteArray)[0]'(by decide)).toNat = 97 := rfl
  have hCH := hid hC
  clear hC
  go_enter Tryz.func60, Tryz.ntmps60
  go_wp2_with fail
  have hS := hid (fun (wx : World) (hx : wx.heap = (w.setCell ⟨C, 2, none⟩ (.int .i64 1)).heap) => skip_A C wx (by rw [hx]; simp [World.setCell]; exact hCl) (by rw [hx]; exact set_blk hCH.out 2 (.int .i64 1)))
  refine wp_scope_jumps 0 (fun a' w' => a' = { tmps := #[.pointer (some ⟨C, 0, none⟩), undef, .int .i64 1, .pointer (some ⟨C, 0, none⟩), .pointer (some ⟨C, 0, none⟩), .pointer (some ⟨C, 2, none⟩), .int .i64 0, .pointer (some ⟨C, 0, none⟩), .pointer (some ⟨C, 0, none⟩), .pointer (some ⟨C, 0, none⟩), .string ⟨#[97]⟩, .int .i64 1, .bool false, undef, undef, .pointer (some ⟨C, 0, none⟩), .pointer (some ⟨C, 0, none⟩), .pointer (some ⟨C, 0, none⟩), .string ⟨#[97]⟩, .pointer (some ⟨C, 0, none⟩), .pointer (some ⟨C, 0, none⟩), .pointer (some ⟨C, 2, none⟩), .int .i64 0, .int .u8 97, .bool false, .bool false, .bool false, .bool false, undef, undef, undef, undef, undef, undef, .bool false, .bool false, .bool false, .bool false, .bool false, .bool false, undef, undef, .bool false, .bool false, .bool false, undef, undef, .bool false, .bool false, .bool false, .bool false, undef, undef, .pointer (some ⟨C, 0, none⟩), .pointer (some ⟨C, 0, none⟩), .pointer (some ⟨C, 2, none⟩), .int .i64 0, .int .i64 1, .int .i64 1, .pointer (some ⟨C, 0, none⟩), .pointer (some ⟨C, 2, none⟩), undef, undef, undef, undef, undef, undef, undef, undef, undef, undef, undef, undef, undef, undef, undef, undef, undef, undef, undef, undef, undef, undef, undef, undef, undef, undef, undef, undef], defers := [] } ∧ w' = (w.setCell ⟨C, 2, none⟩ (.int .i64 1)).drew.drew) (fun _ _ => 0) rfl ?_ ?_
  · go_wp2
    go_step3
    go_wp2
    go_region
    go_wp2
    go_region
    go_wp2
    go_step3
    go_wp2
    go_step3
    exact ⟨rfl, rfl, rfl⟩
  · rintro a' w' ⟨rfl, rfl⟩
    go_wp2
    go_region
    go_wp2_with fail
    refine (hS.out (w.setCell ⟨C, 2, none⟩ (.int .i64 1)).drew.drew.drew rfl).mono ?_
    rintro e w' ⟨rfl, hr⟩
    have hrH := hid hr
    clear hr
    go_wp2
    simp only [Exit.jump]
    refine bodyPost_ret (results_none rfl _ _ _) rfl ⟨rfl, ?_⟩
    obtain ⟨m, h1, h2, h3, h4, h5⟩ := hrH.out
    exact ⟨m, h1, h2, h3, h4, (Below.setCell (Below.refl C w) (Nat.le_refl C) _).drew.drew.drew.trans h5⟩
end Go.Proofs.YtpoaadfkalnjgaaGreatDoor
