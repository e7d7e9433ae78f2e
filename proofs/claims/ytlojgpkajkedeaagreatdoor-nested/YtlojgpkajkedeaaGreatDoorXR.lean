/- reading: the examples that the statements begin with. -/
import Derived.Test.YtlojgpkajkedeaaGreatDoorXN
namespace Go.Proofs.YtlojgpkajkedeaaGreatDoor
open Go.RowKit

def rd1 : List Nd := [⟨0, 1, 0, ⟨#[]⟩, ⟨#[]⟩⟩, ⟨1, 14, 0, ⟨#[]⟩, ⟨#[]⟩⟩, ⟨2, 15, 0, ⟨#[]⟩, ⟨#[]⟩⟩, ⟨3, 8, 0, ⟨#[]⟩, ⟨#[97]⟩⟩]
def rd2 : List Nd := [⟨0, 1, 0, ⟨#[]⟩, ⟨#[]⟩⟩, ⟨1, 8, 0, ⟨#[]⟩, ⟨#[91, 97, 32]⟩⟩, ⟨1, 12, 0, ⟨#[99]⟩, ⟨#[]⟩⟩, ⟨2, 8, 0, ⟨#[]⟩, ⟨#[98]⟩⟩, ⟨1, 8, 0, ⟨#[]⟩, ⟨#[32, 100, 93, 40, 101, 41]⟩⟩]
theorem lit_owns (w : World) (l : List Nd) (n : Nat) (hn : n = l.length) (hl : l.length ≤ 1000) : OwnsN w.heap.size (some ⟨w.heap.size, 0, none⟩) n l (w.alloc (.cells (ndCells l).toArray 36)) := by
  have hlen : (ndCells l).length = l.length * 5 := by
    clear hn hl
    induction l with
    | nil => rfl
    | cons x r ih =>
      have e : ndCells (x :: r) = five x ++ ndCells r := by simp [ndCells]
      rw [e, List.length_append, ih, List.length_cons]; simp [five]; omega
  subst hn
  refine ⟨hlen, .inr ⟨w.heap.size, l.length, _, rfl, Nat.le_refl _, alloc_new _ _, Nat.le_refl _, by unfold maxLen; omega, by simpa using hlen, ?_⟩⟩
  rw [← hlen]; simp

set_option maxRecDepth 100000 in
set_option maxHeartbeats 4000000 in
theorem reading_any (w : World) (henv : Env w) :
    Calls Tryz.prog 28 #[] w fun e w' => e = .returned (.bool true) ∧ Below w.heap.size w w' := by
  have hT1 := hid (tree_all ⟨#[42, 42, 42, 97, 42, 42, 42]⟩ w (by decide) henv)
  rw [show nodesOf (⟨#[42, 42, 42, 97, 42, 42, 42]⟩ : ByteArray).data.toList = rd1 from read1_nodes] at hT1
  have hT2 := hid (fun (wx : World) (hx : Below w.heap.size w wx) => tree_all ⟨#[91, 97, 32, 91, 98, 93, 40, 99, 41, 32, 100, 93, 40, 101, 41]⟩ wx (by decide) (henv.below hx))
  rw [show nodesOf (⟨#[91, 97, 32, 91, 98, 93, 40, 99, 41, 32, 100, 93, 40, 101, 41]⟩ : ByteArray).data.toList = rd2 from read2_nodes] at hT2
  rw [show rd1.length = 4 from rfl] at hT1
  rw [show rd2.length = 5 from rfl] at hT2
  clear henv
  go_enter Tryz.func28, Tryz.ntmps28
  go_wp2_with fail
  refine hT1.out.mono ?_
  rintro e w1 ⟨B1, a1, cp1, rfl, hB1, hown1, hb1⟩
  have hT2' := hid (hT2.out w1 hb1)
  have hown1H := hid hown1
  have hb1H := hid hb1
  have hz1 : w.heap.size ≤ w1.heap.size := hb1.size
  clear hown1 hb1
  go_wp2_with fail
  refine hT2'.out.mono ?_
  rintro e w2 ⟨B2, a2, cp2, rfl, hB2, hown2, hb2⟩
  obtain ⟨W, hW⟩ : ∃ W, W = w2.alloc (.cells (ndCells rd1).toArray 36) := ⟨_, rfl⟩
  have hbW : Below w2.heap.size w2 W := by rw [hW]; exact (Below.refl _ _).alloc (Nat.le_refl _) _
  have hlW : OwnsN w2.heap.size (some ⟨w2.heap.size, 0, none⟩) 4 rd1 W := by rw [hW]; exact lit_owns w2 rd1 4 rfl (by decide)
  have hS1 := hid (same_true B1 w2.heap.size a1 (some ⟨w2.heap.size, 0, none⟩) cp1 4 rd1 W ((hown1H.out.below hb2).below hbW) hlW (by decide))
  have hWH : Hid (W = w2.alloc (.cells #[.int .i64 0, .int .i64 1, .int .i64 0, .string ⟨#[]⟩, .string ⟨#[]⟩, .int .i64 1, .int .i64 14, .int .i64 0, .string ⟨#[]⟩, .string ⟨#[]⟩, .int .i64 2, .int .i64 15, .int .i64 0, .string ⟨#[]⟩, .string ⟨#[]⟩, .int .i64 3, .int .i64 8, .int .i64 0, .string ⟨#[]⟩, .string ⟨#[97]⟩] 36)) := hid hW
  have hown2H := hid hown2
  have hb2H := hid hb2
  have hbWH := hid hbW
  have hz2 : w1.heap.size ≤ w2.heap.size := hb2.size
  rw [show rd1.length = 4 from rfl] at hS1
  clear hW hbW hlW hown2 hb2
  go_wp2_with fail
  rw [← hWH.out]
  refine hS1.out.mono ?_
  rintro e w3 ⟨rfl, hb3⟩
  have hzW : w2.heap.size ≤ W.heap.size := hbWH.out.size
  have hb23 : Below w2.heap.size w2 w3 := hbWH.out.trans (hb3.mono hzW)
  obtain ⟨V, hV⟩ : ∃ V, V = w3.alloc (.cells (ndCells rd2).toArray 36) := ⟨_, rfl⟩
  have hbV : Below w3.heap.size w3 V := by rw [hV]; exact (Below.refl _ _).alloc (Nat.le_refl _) _
  have hlV : OwnsN w3.heap.size (some ⟨w3.heap.size, 0, none⟩) 5 rd2 V := by rw [hV]; exact lit_owns w3 rd2 5 rfl (by decide)
  have hS2 := hid (same_true B2 w3.heap.size a2 (some ⟨w3.heap.size, 0, none⟩) cp2 5 rd2 V ((hown2H.out.below hb23).below hbV) hlV (by decide))
  have hVH : Hid (V = w3.alloc (.cells #[.int .i64 0, .int .i64 1, .int .i64 0, .string ⟨#[]⟩, .string ⟨#[]⟩, .int .i64 1, .int .i64 8, .int .i64 0, .string ⟨#[]⟩, .string ⟨#[91, 97, 32]⟩, .int .i64 1, .int .i64 12, .int .i64 0, .string ⟨#[99]⟩, .string ⟨#[]⟩, .int .i64 2, .int .i64 8, .int .i64 0, .string ⟨#[]⟩, .string ⟨#[98]⟩, .int .i64 1, .int .i64 8, .int .i64 0, .string ⟨#[]⟩, .string ⟨#[32, 100, 93, 40, 101, 41]⟩] 36)) := hid hV
  have hbfin : Hid (∀ wx, Below V.heap.size V wx → Below w.heap.size w wx) := hid (fun wx hx => by
    have h3 := hb3.size
    have h4 := hbV.size
    exact hb1H.out.trans ((hb2H.out.mono hz1).trans ((hb23.mono (by omega)).trans ((hbV.mono (by omega)).trans (hx.mono (by omega))))))
  rw [show rd2.length = 5 from rfl] at hS2
  clear hV hbV hlV hb3 hb23
  go_wp2_with fail
  rw [← hVH.out]
  refine hS2.out.mono ?_
  rintro e w4 ⟨rfl, hb4⟩
  have hb4H := hid hb4
  clear hb4
  go_wp2
  go_ret
  exact ⟨rfl, hbfin.out _ hb4H.out⟩
end Go.Proofs.YtlojgpkajkedeaaGreatDoor
