/- How many lines a block takes: plain facts. -/
import Derived.Test.YtpoaadfkalnjgaaGreatDoorStr3
namespace Go.Proofs.YtpoaadfkalnjgaaGreatDoor.S
open Go

theorem fencedSize_le (c : UInt8) (w : Nat) (l : List (List UInt8)) : fencedSize c w l ≤ l.length := by
  induction l with
  | nil => simp [fencedSize]
  | cons x r ih => simp only [fencedSize]; split <;> simp <;> omega
theorem parSize_le (l : List (List UInt8)) : parSize l ≤ l.length := by
  induction l with
  | nil => simp [parSize]
  | cons x r ih => simp only [parSize]; split <;> simp <;> omega
theorem quoteRow_le (l : List (List UInt8)) : (quoteRow l).length ≤ l.length := by
  induction l with
  | nil => simp [quoteRow]
  | cons x r ih => simp only [quoteRow]; split <;> simp <;> omega
theorem itemRow_le (m : Mark) (row : List (List UInt8)) (h : 0 < row.length) : 1 ≤ (itemRow m row).length ∧ (itemRow m row).length ≤ row.length := by
  unfold itemRow; split
  · simp; omega
  · have h1 := countDeep_pos m.margin row
    have h2 := countDeep_le m.margin row h
    rw [List.length_map, List.length_take]; omega
theorem nextItem_ok (kind : UInt8) (row : List (List UInt8)) (h : (nextItem kind row).ok = true) : 0 < row.length := by
  cases row with
  | nil => simp [nextItem] at h
  | cons x r => simp
theorem listFrom_succ (sub : List (List UInt8) → List Blk × Bool) (kind : UInt8) (f : Nat) (m : Mark) (row : List (List UInt8)) :
    listFrom sub kind (f + 1) m row =
      if (nextItem kind (row.drop ((itemRow m row).length + countBlank (row.drop (itemRow m row).length)))).ok = true then
        (Blk.mk 7 0 [] [] false (sub (itemRow m row)).1 :: (listFrom sub kind f (nextItem kind (row.drop ((itemRow m row).length + countBlank (row.drop (itemRow m row).length)))) (row.drop ((itemRow m row).length + countBlank (row.drop (itemRow m row).length)))).1,
          (sub (itemRow m row)).2 || decide (0 < countBlank (row.drop (itemRow m row).length)) || (listFrom sub kind f (nextItem kind (row.drop ((itemRow m row).length + countBlank (row.drop (itemRow m row).length)))) (row.drop ((itemRow m row).length + countBlank (row.drop (itemRow m row).length)))).2.1,
          (itemRow m row).length + countBlank (row.drop (itemRow m row).length) + (listFrom sub kind f (nextItem kind (row.drop ((itemRow m row).length + countBlank (row.drop (itemRow m row).length)))) (row.drop ((itemRow m row).length + countBlank (row.drop (itemRow m row).length)))).2.2)
      else ([Blk.mk 7 0 [] [] false (sub (itemRow m row)).1], (sub (itemRow m row)).2, (itemRow m row).length) := rfl
theorem listFrom_size (sub : List (List UInt8) → List Blk × Bool) (kind : UInt8) (f : Nat) (m : Mark) (row : List (List UInt8)) (h : 0 < row.length) (hf : row.length ≤ f) :
    1 ≤ (listFrom sub kind f m row).2.2 ∧ (listFrom sub kind f m row).2.2 ≤ row.length := by
  induction f generalizing m row with
  | zero => omega
  | succ f ih =>
    have ho := itemRow_le m row h
    have hg := countBlank_le (row.drop (itemRow m row).length)
    rw [List.length_drop] at hg
    rw [listFrom_succ]
    split
    · rename_i hn
      have hp := nextItem_ok _ _ hn
      rw [List.length_drop] at hp
      have := ih (nextItem kind (row.drop ((itemRow m row).length + countBlank (row.drop (itemRow m row).length)))) (row.drop ((itemRow m row).length + countBlank (row.drop (itemRow m row).length))) (by rw [List.length_drop]; exact hp) (by rw [List.length_drop]; omega)
      rw [List.length_drop] at this
      simp only []; omega
    · simp only []; omega
theorem readList_eq (sub : List (List UInt8) → List Blk × Bool) (m : Mark) (row : List (List UInt8)) : readList sub m row = (.mk 6 m.number [] [] (listFrom sub m.kind row.length m row).2.1 (listFrom sub m.kind row.length m row).1, (listFrom sub m.kind row.length m row).2.2) := rfl
theorem readBlock_size (sub : List (List UInt8) → List Blk × Bool) (x : List UInt8) (r : List (List UInt8)) :
    1 ≤ (readBlock sub (x :: r)).2 ∧ (readBlock sub (x :: r)).2 ≤ (x :: r).length := by
  unfold readBlock
  simp only []
  split
  · exact ⟨countDeep_pos _ _, countDeep_le _ _ (by simp)⟩
  · split
    · simp
    · split
      · simp
      · split
        · simp only [readFenced, List.tail_cons, List.length_cons]; omega
        · split
          · rename_i h
            have h1 : (quoteRow (x :: r)).length = (quoteRow r).length + 1 := by simp [quoteRow, h]
            have h2 := quoteRow_le r
            simp only [h1, List.length_cons]; omega
          · split
            · rw [readList_eq]; exact listFrom_size sub (item x).kind (x :: r).length (item x) (x :: r) (by simp) (Nat.le_refl _)
            · have hp := parSize_le r
              simp only [readParagraph, List.tail_cons]
              split
              · simp only [List.length_cons]; omega
              · rename_i l hl
                have hlt := (List.getElem?_eq_some_iff.1 hl).1
                split <;> simp only [List.length_cons] at * <;> omega
theorem rowFrom_nil (sub : List (List UInt8) → List Blk × Bool) (f : Nat) : rowFrom sub f [] = ([], false) := by
  cases f <;> simp [rowFrom]
theorem rowFrom_step (sub : List (List UInt8) → List Blk × Bool) (f : Nat) (row : List (List UInt8)) (h : row ≠ []) :
    rowFrom sub (f + 1) row = ((readBlock sub row).1 :: (rowFrom sub f (row.drop ((readBlock sub row).2 + countBlank (row.drop (readBlock sub row).2)))).1,
      (decide (0 < countBlank (row.drop (readBlock sub row).2)) && !(row.drop ((readBlock sub row).2 + countBlank (row.drop (readBlock sub row).2))).isEmpty) || (rowFrom sub f (row.drop ((readBlock sub row).2 + countBlank (row.drop (readBlock sub row).2)))).2) := by
  simp only [rowFrom, if_neg h]

end Go.Proofs.YtpoaadfkalnjgaaGreatDoor.S
