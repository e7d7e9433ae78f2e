import Derived.Test.YtlojgpkajkedeaaGreatDoorW14
import Derived.Test.YtlojgpkajkedeaaGreatDoorStr
/- Items: plain facts. -/
namespace Go.Proofs.YtlojgpkajkedeaaGreatDoor
open Go
namespace S

theorem shallow_len (l : List UInt8) (h : shallow l ≠ []) : indent l + (shallow l).length = l.length := by
  unfold shallow at *; split at h
  · exact absurd rfl h
  · rename_i h4; rw [if_neg h4, List.length_drop]; have := indent_le l; omega
theorem item_margin (l : List UInt8) : (item l).margin ≤ l.length + 1 := by
  by_cases h : markerSize (shallow l) = 0 ∨ endsWord (shallow l) (markerSize (shallow l)) = false
  · rw [item_no _ h]; simp
  · rw [item_yes _ h]
    have h1 := markerSize_le (shallow l)
    have h2 := indent_le ((shallow l).drop (markerSize (shallow l)))
    rw [List.length_drop] at h2
    have hne : shallow l ≠ [] := by intro e; apply h; left; rw [e]; rfl
    have h3 := shallow_len l hne
    simp only []; split <;> omega
theorem item_ok (l : List UInt8) (h : (item l).ok = true) : 1 ≤ (item l).margin ∧ 0 < l.length := by
  by_cases hn : markerSize (shallow l) = 0 ∨ endsWord (shallow l) (markerSize (shallow l)) = false
  · rw [item_no _ hn] at h; simp at h
  · rw [item_yes _ hn]
    have hne : shallow l ≠ [] := by intro e; apply hn; left; rw [e]; rfl
    have h3 := shallow_len l hne
    have h4 : 0 < (shallow l).length := List.length_pos_iff.2 hne
    have h5 : markerSize (shallow l) ≠ 0 := fun e => hn (.inl e)
    exact ⟨by simp only []; omega, by omega⟩
theorem bytes_map_drop (m : Nat) (r : List (List UInt8)) (n : Nat) : bytes ((r.take n).map (fun l => l.drop m)) ≤ bytes r := by
  induction r generalizing n with
  | nil => simp [bytes]
  | cons x r ih => cases n with
    | zero => simp [bytes]
    | succ n => have := ih n; simp only [List.take_succ_cons, List.map_cons, bytes, List.sum_cons, List.length_drop] at *; omega
theorem itemRow_lt (l : List UInt8) (r : List (List UInt8)) (h : (item l).ok = true) : bytes (itemRow (item l) (l :: r)) < bytes (l :: r) := by
  obtain ⟨h1, h2⟩ := item_ok l h
  unfold itemRow; split
  · simp only [bytes, List.map_cons, List.sum_cons, List.map_nil, List.sum_nil, List.length_nil]; omega
  · obtain ⟨n, hn⟩ : ∃ n, countDeep (item l).margin (l :: r) = n + 1 := ⟨countDeep (item l).margin (l :: r) - 1, by have := countDeep_pos (item l).margin (l :: r); omega⟩
    have h3 := bytes_map_drop (item l).margin r n
    rw [hn, List.take_succ_cons, List.map_cons]
    simp only [bytes, List.map_cons, List.sum_cons, List.length_drop] at *; omega
theorem nextItem_yes (kind : UInt8) (l : List UInt8) (r : List (List UInt8)) (h : (nextItem kind (l :: r)).ok = true) : nextItem kind (l :: r) = item l ∧ (item l).kind = kind ∧ (item l).ok = true := by
  unfold nextItem at *
  simp only [] at *
  split at h
  · simp at h
  · rename_i hr
    simp at h
    rw [if_neg hr]
    refine ⟨?_, h.2, h.1⟩
    cases hi : item l with
    | mk a b c d e => rw [hi] at h; simp at h; simp [h]

end S
end Go.Proofs.YtlojgpkajkedeaaGreatDoor
