/- The lines of a text: plain facts. -/
import Derived.Test.YtpoaadfkalnjgaaGreatDoorStr4
import Derived.Lib.SplitLaws
import Derived.Lib.IndexBytes
namespace Go.Proofs.YtpoaadfkalnjgaaGreatDoor.S
open Go

/-- What stands between newlines. -/
def nl : List UInt8 → List (List UInt8)
  | [] => [[]]
  | b :: l => if b = 10 then [] :: nl l else match nl l with
    | p :: r => (b :: p) :: r
    | [] => [[b]]
theorem nl_length (l : List UInt8) : (nl l).length = l.count 10 + 1 := by
  induction l with
  | nil => rfl
  | cons b l ih =>
    simp only [nl]; split
    · rename_i h; subst h; simp [ih]
    · rename_i h
      cases hn : nl l with
      | nil => rw [hn] at ih; simp at ih
      | cons p r => rw [hn] at ih; simp [h]; simpa using ih
theorem nl_none (l : List UInt8) (h : l.count 10 = 0) : nl l = [l] := by
  induction l with
  | nil => rfl
  | cons b l ih =>
    have hb : ¬ b = 10 := by intro e; subst e; simp at h
    have hl : l.count 10 = 0 := by rw [List.count_cons] at h; omega
    simp only [nl, if_neg hb, ih hl]
theorem index_cons (b : UInt8) (l : List UInt8) (h : ¬ b = 10) : Lib.indexByte (b :: l) 10 = if Lib.indexByte l 10 == -1 then -1 else Lib.indexByte l 10 + 1 := by
  rw [Lib.indexByte]; rw [if_neg (by simpa using h)]
theorem index_none (l : List UInt8) : Lib.indexByte l 10 = -1 ↔ l.count 10 = 0 := by
  have h := indexByte_neg l 10
  have hg := Lib.indexByte_ge l 10
  rw [List.count_eq_zero]
  constructor
  · intro e; exact h.1 (by omega)
  · intro e; have := h.2 e; omega
theorem splitK_nl (l : List UInt8) : Lib.splitK [10] 0 (l.count 10) l = nl l := by
  induction l with
  | nil => rfl
  | cons b l ih =>
    by_cases hb : b = 10
    · subst hb
      have hi : Lib.index ((10 : UInt8) :: l) [10] = 0 := by rw [Lib.index_one, Lib.indexByte]; simp
      rw [List.count_cons_self, Lib.splitK, hi, if_neg (by decide)]
      simp only [nl, if_true]
      simp [ih]
    · rw [List.count_cons_of_ne (by simpa using hb)]
      by_cases hc : l.count 10 = 0
      · rw [hc]; simp only [Lib.splitK]
        rw [nl_none _ (by rw [List.count_cons_of_ne (by simpa using hb)]; exact hc)]
      · obtain ⟨k, hk⟩ : ∃ k, l.count 10 = k + 1 := ⟨l.count 10 - 1, by omega⟩
        have hne : ¬ Lib.indexByte l 10 = -1 := fun e => hc ((index_none l).1 e)
        obtain ⟨i, hi⟩ : ∃ i : Nat, Lib.indexByte l 10 = (i : Int) := ⟨(Lib.indexByte l 10).toNat, by have := Lib.indexByte_ge l 10; omega⟩
        rw [hk] at ih ⊢
        have e1 : Lib.index (b :: l) [10] = ((i + 1 : Nat) : Int) := by
          rw [Lib.index_one, index_cons _ _ hb, if_neg (by simpa using hne), hi]; rfl
        have e2 : Lib.index l [10] = (i : Int) := by rw [Lib.index_one, hi]
        rw [Lib.splitK, e2, if_neg (by rw [beq_iff_eq]; omega)] at ih
        rw [Lib.splitK, e1, if_neg (by rw [beq_iff_eq]; omega)]
        simp only [nl, if_neg hb]
        rw [← ih]
        simp
/-- The lines of a text. -/
def lines (l : List UInt8) : List (List UInt8) := if l = [] then [] else nl (Lib.trimSuffix l [10])

end Go.Proofs.YtpoaadfkalnjgaaGreatDoor.S
