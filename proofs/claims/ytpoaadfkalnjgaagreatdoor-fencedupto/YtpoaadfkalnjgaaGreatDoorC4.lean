import Derived.Test.YtpoaadfkalnjgaaGreatDoorC3
namespace Go.Proofs.YtpoaadfkalnjgaaGreatDoor
open Go.RowKit

set_option maxRecDepth 100000 in
set_option maxHeartbeats 2000000 in
theorem pair_A (C o m : Nat) (w : World) (h0 : w.cell? ⟨C, o, none⟩ = some (.pointer (some ⟨m, 0, none⟩))) (hM : w.heap[m]? = some (.cells partA 100 (0, 0))) :
    Calls Tryz.prog 107 #[.pointer (some ⟨C, o, none⟩)] w fun e w' => e = .returned (.tuple #[]) ∧ w = w' := by
  have q7 : w.cell? ⟨m, 7, none⟩ = some (.bool false) := cell_blk hM 7 _ rfl
  have hF := hid (first_any C o _ w h0 ⟨_, rfl⟩)
  have hB := hid (behind_any m (.pointer none) w (cell_blk hM 9 _ rfl) ⟨_, rfl⟩)
  clear hM
  go_enter Tryz.func107, Tryz.ntmps107
  go_wp2_with fail
  refine hF.out.mono ?_
  rintro e w' ⟨rfl, rfl⟩
  go_wp2
  refine wp_loop_rounds 2 ?_
  rw [rounds_succ]
  go_wp2
  refine wp_loop_rounds 1 ?_
  rw [rounds_succ]
  go_wp2_with fail
  refine hB.out.mono ?_
  rintro e w' ⟨rfl, rfl⟩
  go_wp2
  rw [rounds_succ]
  go_wp2
  go_end0
  exact ⟨rfl, rfl⟩

set_option maxRecDepth 100000 in
set_option maxHeartbeats 2000000 in
theorem join_A (C o m : Nat) (w : World) (h0 : w.cell? ⟨C, o, none⟩ = some (.pointer (some ⟨m, 0, none⟩))) (hM : w.heap[m]? = some (.cells partA 100 (0, 0))) :
    Calls Tryz.prog 108 #[.pointer (some ⟨C, o, none⟩)] w fun e w' => e = .returned (.tuple #[]) ∧ w = w' := by
  have q0 : w.cell? ⟨m, 0, none⟩ = some (.int .i64 8) := cell_blk hM 0 _ rfl
  have q2 : w.cell? ⟨m, 2, none⟩ = some (.string ⟨#[97]⟩) := cell_blk hM 2 _ rfl
  have hF := hid (first_any C o _ w h0 ⟨_, rfl⟩)
  have hB := hid (behind_any m (.pointer none) w (cell_blk hM 9 _ rfl) ⟨_, rfl⟩)
  clear hM
  go_enter Tryz.func108, Tryz.ntmps108
  go_wp2_with fail
  refine hF.out.mono ?_
  rintro e w' ⟨rfl, rfl⟩
  go_wp2
  refine wp_loop_rounds 2 ?_
  rw [rounds_succ]
  go_wp2_with fail
  refine hB.out.mono ?_
  rintro e w' ⟨rfl, rfl⟩
  go_wp2
  rw [rounds_succ]
  go_wp2
  go_end0
  exact ⟨rfl, rfl⟩

set_option maxHeartbeats 2000000 in
theorem settle_A (C o m : Nat) (w : World) (h0 : w.cell? ⟨C, o, none⟩ = some (.pointer (some ⟨m, 0, none⟩))) (hM : w.heap[m]? = some (.cells partA 100 (0, 0))) :
    Calls Tryz.prog 61 #[.pointer (some ⟨C, o, none⟩)] w fun e w' => e = .returned (.tuple #[]) ∧ w = w' := by
  have hP := hid (pair_A C o m w h0 hM)
  have hJ := hid (join_A C o m w h0 hM)
  clear hM
  go_enter Tryz.func61, Tryz.ntmps61
  go_wp2_with fail
  refine hP.out.mono ?_
  rintro e w' ⟨rfl, rfl⟩
  go_wp2_with fail
  refine hJ.out.mono ?_
  rintro e w' ⟨rfl, rfl⟩
  go_wp2
  go_end0
  exact ⟨rfl, rfl⟩

set_option maxHeartbeats 2000000 in
theorem within_A (w : World) :
    Calls Tryz.prog 41 #[.string ⟨#[97]⟩] w fun e w' =>
      ∃ m, e = .returned (.agg #[.pointer (some ⟨m, 0, none⟩), .pointer (some ⟨m, 0, none⟩)]) ∧ w.heap.size ≤ m ∧ m < w'.heap.size ∧ w'.heap[m]? = some (.cells partA 100 (0, 0)) ∧ Below w.heap.size w w' := by
  obtain ⟨w2, hw2⟩ : ∃ w2, w2 = (w.alloc (.cells #[.pointer none, .pointer none] 75)).alloc (.cells #[.string ⟨#[97]⟩, .int .i64 0, .int .i64 0, .pointer none, .pointer none, .slice none 0 0] 105) := ⟨_, rfl⟩
  have hs1 : (w.alloc (.cells #[.pointer none, .pointer none] 75)).heap.size = w.heap.size + 1 := by simp
  have hs2 : w2.heap.size = w.heap.size + 2 := by rw [hw2]; simp
  have hC : w2.heap[w.heap.size + 1]? = some (.cells (cutA 0 0 none).toArray 105 (0, 0)) := by rw [hw2, ← hs1]; exact alloc_new _ _
  have hR : w2.heap[w.heap.size]? = some (.cells #[.pointer none, .pointer none] 75 (0, 0)) := by rw [hw2, Below.heap_alloc _ _ _ (by simp)]; exact alloc_new _ _
  have hb2 : Below w.heap.size w w2 := by rw [hw2]; exact ((Below.refl _ _).alloc (Nat.le_refl _) _).alloc (by simp) _
  have hK := hid (cut_A (w.heap.size + 1) w2 (by omega) hC)
  have hRH := hid hR
  have hb2H := hid hb2
  have hw2H := hid hw2
  clear hC hR hb2 hs1 hs2 hw2
  go_enter Tryz.func41, Tryz.ntmps41
  go_wp2_with fail
  rw [← hw2H.out]
  refine hK.out.mono ?_
  rintro e w3 ⟨rfl, m, hm1, hm2, hC3, hM3, hb3⟩
  have hR3 := (hb3.block w.heap.size (by omega)).trans hRH.out
  have hSt := hid (settle_A (w.heap.size + 1) 3 m w3 (cell_blk hC3 3 _ rfl) hM3)
  have p3 : w3.cell? ⟨w.heap.size + 1, 3, none⟩ = some (.pointer (some ⟨m, 0, none⟩)) := cell_blk hC3 3 _ rfl
  have p4 : w3.cell? ⟨w.heap.size + 1, 4, none⟩ = some (.pointer (some ⟨m, 0, none⟩)) := cell_blk hC3 4 _ rfl
  have r0 : w3.cell? ⟨w.heap.size, 0, none⟩ = some (.pointer none) := cell_blk hR3 0 _ rfl
  have r1 : w3.cell? ⟨w.heap.size, 1, none⟩ = some (.pointer none) := cell_blk hR3 1 _ rfl
  have g := free_blk hR3
  have hR3H := hid hR3
  have hM3H := hid hM3
  have hb3H := hid hb3
  clear hR3 hM3 hb3 hC3
  go_wp2_with fail
  refine hSt.out.mono ?_
  rintro e w' ⟨rfl, rfl⟩
  go_wp2
  have z := set_blk (set_blk (cs := [.pointer none, .pointer none]) hR3H.out 0 (.pointer (some ⟨m, 0, none⟩))) 1 (.pointer (some ⟨m, 0, none⟩))
  have z0 := cell_blk z 0 _ rfl
  have z1 := cell_blk z 1 _ rfl
  refine bodyPost_ret (v := .agg #[.pointer (some ⟨m, 0, none⟩), .pointer (some ⟨m, 0, none⟩)]) (by simp [results, Tryz.results41, go_sem, z0, z1]) rfl ⟨m, rfl, by omega, ?_, ?_, ?_⟩
  · simpa [World.setCell] using hm2
  · have hne : ¬ m = w.heap.size := by omega
    exact set_other (set_other hM3H.out _ (by simpa using hne) _) _ (by simpa using hne) _
  · exact Below.setCell (Below.setCell (hb2H.out.trans (hb3H.out.mono (by omega))) (by simp) _) (by simp) _

end Go.Proofs.YtpoaadfkalnjgaaGreatDoor
