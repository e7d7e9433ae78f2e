import Derived.Test.YtpoaadfkalnjgaaGreatDoorC8
import Derived.Test.YtpoaadfkalnjgaaGreatDoorFM
namespace Go.Proofs.YtpoaadfkalnjgaaGreatDoor
open Go.RowKit

theorem ndCells_get (l : List Nd) (i j : Nat) (x : Nd) (h : l[i]? = some x) (hj : j < 5) : (ndCells l)[5 * i + j]? = (five x)[j]? := by
  induction l generalizing i with
  | nil => simp at h
  | cons q r ih =>
    have hl : (five q).length = 5 := rfl
    cases i with
    | zero =>
      simp at h; subst h
      show (five q ++ ndCells r)[5 * 0 + j]? = _
      rw [List.getElem?_append_left (by rw [hl]; omega)]; simp
    | succ i =>
      have := ih i (by simpa using h)
      show (five q ++ ndCells r)[5 * (i + 1) + j]? = _
      rw [List.getElem?_append_right (by rw [hl]; omega), hl, ← this]; congr 1; omega
theorem OwnsN.some {B : Nat} {a : Option Addr} {cp : Nat} {l : List Nd} {w : World} (h : OwnsN B a cp l w) (hpos : 0 < l.length) :
    ∃ g, a = some ⟨g, 0, none⟩ ∧ B ≤ g ∧ l.length ≤ cp ∧ ∀ i j x u, l[i]? = some x → j < 5 → (five x)[j]? = some u → w.cell? ⟨g, 5 * i + j, none⟩ = some u := by
  rcases h.2 with ⟨h1, h2⟩ | ⟨g, cap, cur, h1, h2, h3, h4, h5, h6, h7⟩
  · omega
  · cases h1
    refine ⟨g, rfl, h2, h4, ?_⟩
    intro i j x u hi hj hu
    have hx := ndCells_get l i j x hi hj
    rw [hu] at hx
    have := World.ownsRow.cells h (g := g) rfl (5 * i + j) u hx
    have ha : (⟨g, 0, none⟩ : Addr).add (5 * i + j) = ⟨g, 5 * i + j, none⟩ := by
      simp only [Addr.add]; split
      · rename_i h; simp <;> omega
      · simp <;> omega
    rw [← ha]; exact this

/-- The one content that these texts have. -/
def isA (c : List UInt8) : Prop := c = [97]
def contA (_ : List UInt8) (d : Nat) : List Nd := [ndA d]
theorem contA_ok (c : List UInt8) (h : isA c) : ContOK c (contA c) := by
  unfold isA at h; subst h; exact contOK_A

def oneRuleB : ByteArray := ⟨#[49, 46, 32, 45, 45, 45, 10]⟩
def oneTs : List S.Blk := [.mk 6 1 [] [] false [.mk 7 0 [] [] false [.mk 4 0 [] [] false []]]]
theorem oneTs_good : goodL isA 0 oneTs := by simp [oneTs, goodL, goodB]
theorem oneTs_flat : flatL contA 0 oneTs = [⟨0, 6, 1, ⟨#[]⟩, ⟨#[116, 105, 103, 104, 116]⟩⟩, ⟨1, 7, 0, ⟨#[]⟩, ⟨#[]⟩⟩, ⟨2, 4, 0, ⟨#[]⟩, ⟨#[]⟩⟩] := by
  simp [oneTs, flatL, flatB, textOf, spacingOf, S.B]

theorem oneTree (w : World) (henv : Env w) :
    Calls Tryz.prog 10 #[.string ⟨#[49, 46, 32, 45, 45, 45, 10]⟩] w fun e w' => ∃ g cp, e = .returned (.tuple #[.slice (some ⟨g, 0, none⟩) 3 cp, .int .i64 0]) ∧ w.heap.size ≤ g ∧ 3 ≤ cp ∧ Below w.heap.size w w' ∧
      (w'.cell? ⟨g, 0, none⟩ = some (.int .i64 0) ∧ w'.cell? ⟨g, 1, none⟩ = some (.int .i64 6) ∧ w'.cell? ⟨g, 2, none⟩ = some (.int .i64 1) ∧ w'.cell? ⟨g, 3, none⟩ = some (.string ⟨#[]⟩) ∧ w'.cell? ⟨g, 4, none⟩ = some (.string ⟨#[116, 105, 103, 104, 116]⟩)) ∧
      (w'.cell? ⟨g, 5, none⟩ = some (.int .i64 1) ∧ w'.cell? ⟨g, 6, none⟩ = some (.int .i64 7) ∧ w'.cell? ⟨g, 7, none⟩ = some (.int .i64 0) ∧ w'.cell? ⟨g, 8, none⟩ = some (.string ⟨#[]⟩) ∧ w'.cell? ⟨g, 9, none⟩ = some (.string ⟨#[]⟩)) ∧
      (w'.cell? ⟨g, 10, none⟩ = some (.int .i64 2) ∧ w'.cell? ⟨g, 11, none⟩ = some (.int .i64 4) ∧ w'.cell? ⟨g, 12, none⟩ = some (.int .i64 0) ∧ w'.cell? ⟨g, 13, none⟩ = some (.string ⟨#[]⟩) ∧ w'.cell? ⟨g, 14, none⟩ = some (.string ⟨#[]⟩)) := by
  have hts : (S.readRow (oneRuleB.size + 1) (S.lines oneRuleB.data.toList)).1 = oneTs := S.oneRule_row 6
  refine (tree_any isA contA contA_ok oneRuleB w (by decide) henv oneTs hts oneTs_good (by rw [oneTs_flat]; decide)).mono ?_
  rintro e w' ⟨B, a, cp, h1, h2, h3, h4⟩
  rw [oneTs_flat] at h1 h3
  obtain ⟨g, rfl, h5, h6, h7⟩ := h3.some (by decide)
  refine ⟨g, cp, h1, by omega, h6, h4, ⟨?_, ?_, ?_, ?_, ?_⟩, ⟨?_, ?_, ?_, ?_, ?_⟩, ⟨?_, ?_, ?_, ?_, ?_⟩⟩
  · exact h7 0 0 _ _ rfl (by decide) rfl
  · exact h7 0 1 _ _ rfl (by decide) rfl
  · exact h7 0 2 _ _ rfl (by decide) rfl
  · exact h7 0 3 _ _ rfl (by decide) rfl
  · exact h7 0 4 _ _ rfl (by decide) rfl
  · exact h7 1 0 _ _ rfl (by decide) rfl
  · exact h7 1 1 _ _ rfl (by decide) rfl
  · exact h7 1 2 _ _ rfl (by decide) rfl
  · exact h7 1 3 _ _ rfl (by decide) rfl
  · exact h7 1 4 _ _ rfl (by decide) rfl
  · exact h7 2 0 _ _ rfl (by decide) rfl
  · exact h7 2 1 _ _ rfl (by decide) rfl
  · exact h7 2 2 _ _ rfl (by decide) rfl
  · exact h7 2 3 _ _ rfl (by decide) rfl
  · exact h7 2 4 _ _ rfl (by decide) rfl

set_option maxHeartbeats 4000000 in
theorem blocks_any (w : World) (henv : Env w) :
    Calls Tryz.prog 16 #[] w fun e w' => e = .returned (.bool true) ∧ Below w.heap.size w w' := by
  have hT := hid (oneTree w henv)
  clear henv
  go_enter Tryz.func16, Tryz.ntmps16
  go_wp2_with fail
  refine hT.out.mono ?_
  rintro e w1 ⟨g, cp, rfl, hg, hcp, hb, ⟨a0, a1, a2, a3, a4⟩, ⟨b0, b1, b2, b3, b4⟩, ⟨c0, c1, c2, c3, c4⟩⟩
  have hbH := hid hb
  clear hb
  go_wp2
  go_ret
  exact ⟨rfl, hbH.out⟩

end Go.Proofs.YtpoaadfkalnjgaaGreatDoor
