/- The blocks of a text between fences: plain facts. -/
import Derived.Test.YtpoaadfkalnjgaaGreatDoorStr6
namespace Go.Proofs.YtpoaadfkalnjgaaGreatDoor.S
open Go

theorem nl_line (p l : List UInt8) (h : 10 ∉ p) : nl (p ++ 10 :: l) = p :: nl l := by
  induction p with
  | nil => simp [nl]
  | cons b p ih =>
    have hb : ¬ b = 10 := fun e => h (by simp [e])
    have hp : 10 ∉ p := fun e => h (by simp [e])
    simp only [List.cons_append, nl, if_neg hb, ih hp]
theorem nl_lines (L : List (List UInt8)) (l : List UInt8) (h : ∀ p ∈ L, 10 ∉ p) : nl ((L.map (fun p => p ++ [10])).flatten ++ l) = L ++ nl l := by
  induction L with
  | nil => simp
  | cons p L ih =>
    simp only [List.map_cons, List.flatten_cons, List.cons_append, List.append_assoc]
    rw [List.nil_append, nl_line p _ (h p (by simp)), ih (fun q hq => h q (by simp [hq]))]

/-- The longest run of a byte: so far, and the run at hand. -/
def most : Nat → Nat → List UInt8 → Nat
  | m, _, [] => m
  | m, n, b :: l => if b = 96 then most (max m (n + 1)) (n + 1) l else most (max m 0) 0 l
theorem most_ge (m n : Nat) (l : List UInt8) : m ≤ most m n l := by
  induction l generalizing m n with
  | nil => exact Nat.le_refl _
  | cons b l ih =>
    simp only [most]; split
    · exact Nat.le_trans (Nat.le_max_left _ _) (ih _ _)
    · exact Nat.le_trans (Nat.le_max_left _ _) (ih _ _)
theorem most_cnt (m n : Nat) (l : List UInt8) : (n + cnt 96 l ≤ most m n l ∨ cnt 96 l = 0) := by
  induction l generalizing m n with
  | nil => right; rfl
  | cons b l ih =>
    simp only [most, cnt]; split
    · left
      rcases ih (max m (n + 1)) (n + 1) with h | h
      · omega
      · have := most_ge (max m (n + 1)) (n + 1) l; omega
    · right; rfl
theorem most_drop (m n : Nat) (l : List UInt8) (k : Nat) : cnt 96 (l.drop k) ≤ most m n l := by
  induction l generalizing m n k with
  | nil => simp [cnt]
  | cons b l ih =>
    cases k with
    | zero =>
      rcases most_cnt m n (b :: l) with h | h
      · simp only [List.drop_zero]; omega
      · simp only [List.drop_zero]; omega
    | succ k =>
      simp only [List.drop_succ_cons, most]; split
      · exact ih _ _ k
      · exact ih _ _ k
theorem most_le (m n : Nat) (l : List UInt8) (h : n ≤ m) : most m n l ≤ max m (n + l.length) := by
  induction l generalizing m n with
  | nil => simp [most]; omega
  | cons b l ih =>
    simp only [most, List.length_cons]; split
    · have := ih (max m (n + 1)) (n + 1) (by omega); omega
    · have := ih (max m 0) 0 (by omega); omega
theorem cnt_prefix (c : UInt8) (p l : List UInt8) : cnt c p ≤ cnt c (p ++ l) := by
  induction p with
  | nil => simp [cnt]
  | cons b p ih => simp only [cnt, List.cons_append]; split <;> omega
/-- The lines of a text lie within it. -/
theorem nl_within (l : List UInt8) : ∀ p ∈ nl l, ∃ k t, l.drop k = p ++ t := by
  induction l with
  | nil => intro p hp; simp [nl] at hp; exact ⟨0, [], by simp [hp]⟩
  | cons b l ih =>
    intro p hp
    simp only [nl] at hp
    split at hp
    · simp at hp
      rcases hp with rfl | hp
      · exact ⟨0, b :: l, rfl⟩
      · obtain ⟨k, t, h⟩ := ih p hp; exact ⟨k + 1, t, by simpa using h⟩
    · cases hn : nl l with
      | nil => have := nl_length l; rw [hn] at this; simp at this
      | cons q r =>
        rw [hn] at hp; simp at hp
        rcases hp with rfl | hp
        · obtain ⟨t, ht⟩ : ∃ t, l = q ++ t := by
            clear ih
            induction l generalizing q r with
            | nil => simp [nl] at hn; exact ⟨[], by simp [hn.1]⟩
            | cons a l ih2 =>
              simp only [nl] at hn
              split at hn
              · simp at hn; exact ⟨a :: l, by simp [← hn.1]⟩
              · cases hm : nl l with
                | nil => have := nl_length l; rw [hm] at this; simp at this
                | cons q2 r2 =>
                  rw [hm] at hn; simp at hn
                  obtain ⟨t, ht⟩ := ih2 q2 r2 hm
                  exact ⟨t, by rw [← hn.1, ht]; simp⟩
          exact ⟨0, t, by simp [ht]⟩
        · obtain ⟨k, t, h⟩ := ih p (by rw [hn]; simp [hp]); exact ⟨k + 1, t, by simpa using h⟩
theorem nl_no (l : List UInt8) : ∀ p ∈ nl l, 10 ∉ p := by
  induction l with
  | nil => intro p hp; simp [nl] at hp; simp [hp]
  | cons b l ih =>
    intro p hp
    simp only [nl] at hp
    split at hp
    · simp at hp
      rcases hp with rfl | hp
      · simp
      · exact ih p hp
    · rename_i hb
      cases hn : nl l with
      | nil => have := nl_length l; rw [hn] at this; simp at this
      | cons q r =>
        rw [hn] at hp; simp at hp
        rcases hp with rfl | hp
        · have := ih q (by rw [hn]; simp)
          simp; exact ⟨fun e => hb e.symm, this⟩
        · exact ih p (by rw [hn]; simp [hp])
theorem trimSuffix_pre (l : List UInt8) : ∃ t, l = Lib.trimSuffix l [10] ++ t := by
  unfold Lib.trimSuffix
  split
  · exact ⟨l.drop (l.length - 1), by simp⟩
  · exact ⟨[], by simp⟩
theorem lines_no (l : List UInt8) : ∀ p ∈ lines l, 10 ∉ p := by
  unfold lines; split
  · simp
  · exact nl_no _
theorem lines_cnt (m : Nat) (l : List UInt8) (p : List UInt8) (hp : p ∈ lines l) (k : Nat) : cnt 96 (p.drop k) ≤ most m 0 l := by
  unfold lines at hp; split at hp
  · simp at hp
  · obtain ⟨j, t, h⟩ := nl_within _ p hp
    obtain ⟨u, hu⟩ := trimSuffix_pre l
    by_cases hk : k ≤ p.length
    · by_cases hj : j ≤ (Lib.trimSuffix l [10]).length
      · have h1 : l.drop (j + k) = p.drop k ++ (t ++ u) := by
          rw [hu, ← List.drop_drop, List.drop_append_of_le_length hj, h, List.append_assoc, List.drop_append_of_le_length hk]
        have h2 := most_drop m 0 l (j + k)
        rw [h1] at h2
        exact Nat.le_trans (cnt_prefix 96 (p.drop k) (t ++ u)) h2
      · rw [List.drop_eq_nil_of_le (by omega)] at h
        have : p = [] := by cases p with | nil => rfl | cons => simp at h
        subst this; simp [cnt]
    · rw [List.drop_eq_nil_of_le (by omega)]; simp [cnt]

/-- So many graves. -/
def gr (n : Nat) : List UInt8 := List.replicate n 96
theorem cnt_gr (n : Nat) (l : List UInt8) (h : l.head? ≠ some 96) : cnt 96 (gr n ++ l) = n := by
  induction n with
  | zero => cases l with
    | nil => rfl
    | cons b l => simp at h; simp [gr, cnt, h]
  | succ n ih => simp only [gr, List.replicate_succ, List.cons_append, cnt, if_true]; rw [← gr, ih]
theorem drop_gr (n : Nat) (l : List UInt8) : (gr n ++ l).drop n = l := by
  rw [List.drop_append_of_le_length (by simp [gr])]; simp [gr]
def soItIs : List UInt8 := [32, 32, 115, 111, 32, 105, 116, 32, 105, 115, 32]
def soInfo : List UInt8 := [115, 111, 32, 105, 116, 32, 105, 115]
theorem indent_gr (n : Nat) (h : 0 < n) (l : List UInt8) : indent (gr n ++ l) = 0 := by
  cases n with
  | zero => omega
  | succ n => simp [gr, List.replicate_succ, indent, cnt]
theorem shallow_gr (n : Nat) (h : 0 < n) (l : List UInt8) : shallow (gr n ++ l) = gr n ++ l := by
  unfold shallow; rw [indent_gr n h]; simp
theorem gr_cons (n : Nat) (h : 0 < n) (l : List UInt8) : ∃ t, gr n ++ l = 96 :: t := by
  cases n with
  | zero => omega
  | succ n => exact ⟨gr n ++ l, by simp [gr, List.replicate_succ]⟩
theorem fence_open (n : Nat) (h : 3 ≤ n) : fence (gr n ++ soItIs) = ⟨96, n, 0, soInfo, true⟩ := by
  obtain ⟨t, ht⟩ := gr_cons n (by omega) soItIs
  have hs := shallow_gr n (by omega) soItIs
  have hi : fenceInfo (gr n ++ soItIs) 96 = soInfo := by
    unfold fenceInfo; rw [cnt_gr n _ (by decide), drop_gr]; decide
  rw [fence_yes _ 96 t (by rw [hs, ht]) (Or.inl rfl), ← ht, cnt_gr n _ (by decide), indent_gr n (by omega), hi]
  have : fenceOk 96 n soInfo = true := by
    unfold fenceOk; rw [show decide (96 ∈ soInfo) = false from by decide]; simp [h]
  rw [this]
theorem not_blank_gr (n : Nat) (h : 0 < n) (l : List UInt8) : blank (gr n ++ l) = false := by
  unfold blank; rw [indent_gr n h]; simp [gr]; omega
theorem closed_gr (n : Nat) (h : 0 < n) : closedBy 96 n (gr n) = true := by
  have hs := shallow_gr n h []
  rw [List.append_nil] at hs
  have hc := cnt_gr n [] (by simp)
  rw [List.append_nil] at hc
  have hd := drop_gr n []
  rw [List.append_nil] at hd
  unfold closedBy; rw [hs, hc, hd]; simp [blank, indent, cnt]
theorem not_closed (n : Nat) (p : List UInt8) (h : ∀ k, cnt 96 (p.drop k) < n) : closedBy 96 n p = false := by
  have : cnt 96 (shallow p) < n := by
    unfold shallow; split
    · simp [cnt]; have := h 0; omega
    · exact h _
  unfold closedBy
  rw [decide_eq_false (by omega)]; rfl
theorem fencedSize_lines (n : Nat) (L : List (List UInt8)) (r : List (List UInt8)) (hn : 0 < n) (h : ∀ p ∈ L, ∀ k, cnt 96 (p.drop k) < n) : fencedSize 96 n (L ++ gr n :: r) = L.length := by
  induction L with
  | nil => simp only [List.nil_append, fencedSize, closed_gr n hn]; rfl
  | cons p L ih =>
    simp only [List.cons_append, fencedSize, not_closed n p (h p (by simp)), List.length_cons]
    rw [if_neg (by simp), ih (fun q hq => h q (by simp [hq]))]
def hashA : List UInt8 := [35, 32, 97]
theorem block_A (sub : List (List UInt8) → List Blk × Bool) (r : List (List UInt8)) : readBlock sub (hashA :: r) = (.mk 2 1 [] [97] false [], 1) := by
  have h1 : ¬ 4 ≤ indent hashA := by decide
  have h2 : isRule hashA = false := by decide
  have h3 : titleLevel hashA = 1 := by decide
  have h4 : titleContent hashA = [97] := by decide
  unfold readBlock; dsimp only; rw [if_neg h1, if_neg (by rw [h2]; simp), h3, if_pos (by decide), h4]; rfl
theorem block_F (sub : List (List UInt8) → List Blk × Bool) (n : Nat) (L : List (List UInt8)) (hn : 3 ≤ n) (h : ∀ p ∈ L, ∀ k, cnt 96 (p.drop k) < n) :
    readBlock sub ((gr n ++ soItIs) :: (L ++ [gr n, hashA])) = (.mk 3 0 soInfo ((L.map (fun p => p ++ [10])).flatten) false [], L.length + 2) := by
  have h1 : ¬ 4 ≤ indent (gr n ++ soItIs) := by rw [indent_gr n (by omega)]; omega
  obtain ⟨t, ht⟩ := gr_cons n (by omega) soItIs
  have hs := shallow_gr n (by omega) soItIs
  have h2 : isRule (gr n ++ soItIs) = false := isRule_no _ 96 t (by rw [hs, ht]) (by decide)
  have h3 : titleLevel (gr n ++ soItIs) = 0 := by
    unfold titleLevel; rw [hs, ht]; simp [cnt]
  have h4 : readFenced (fence (gr n ++ soItIs)) ((gr n ++ soItIs) :: (L ++ [gr n, hashA])) = (.mk 3 0 soInfo ((L.map (fun p => p ++ [10])).flatten) false [], L.length + 2) := by
    rw [fence_open n hn]; unfold readFenced; simp only [List.tail_cons, List.length_cons, List.length_append]
    rw [fencedSize_lines n L [hashA] (by omega) h]
    rw [List.take_left' rfl]
    have ht : fencedText 0 L = (L.map (fun p => p ++ [10])).flatten := by
      unfold fencedText; simp
    refine Prod.ext ?_ ?_
    · exact congrArg (fun x => Blk.mk 3 0 soInfo x false []) ht
    · show min _ _ = _; simp only [List.length_nil]; omega
  unfold readBlock
  dsimp only
  rw [if_neg h1, if_neg (by rw [h2]; simp), h3, if_neg (by omega), fence_open n hn]
  rw [fence_open n hn] at h4
  rw [if_pos rfl, h4]
theorem fenced_row (d n : Nat) (L : List (List UInt8)) (hn : 3 ≤ n) (h : ∀ p ∈ L, ∀ k, cnt 96 (p.drop k) < n) :
    (readRow (d + 1) ((gr n ++ soItIs) :: (L ++ [gr n, hashA]))).1 = [.mk 3 0 soInfo ((L.map (fun p => p ++ [10])).flatten) false [], .mk 2 1 [] [97] false []] := by
  have hb : countBlank ((gr n ++ soItIs) :: (L ++ [gr n, hashA])) = 0 := by
    simp only [countBlank, not_blank_gr n (by omega)]; rfl
  have hA : countBlank [hashA] = 0 := by decide
  have hdr : ((gr n ++ soItIs) :: (L ++ [gr n, hashA])).drop (L.length + 2) = [hashA] := by
    rw [List.drop_succ_cons]
    rw [show L.length + 1 = L.length + 1 from rfl, ← List.drop_drop, List.drop_left' rfl]; rfl
  unfold readRow; rw [hb, List.drop_zero, List.length_cons]
  obtain ⟨f, hf⟩ : ∃ f, (L ++ [gr n, hashA]).length = f + 2 := ⟨L.length, by simp⟩
  rw [hf]
  unfold rowFrom
  rw [if_neg (by simp), block_F _ n L hn h]
  simp only [hdr, hA, Nat.add_zero]
  unfold rowFrom
  rw [if_neg (by simp), block_A]
  simp only [List.drop_succ_cons, List.drop_zero, countBlank, Nat.add_zero]
  unfold rowFrom
  simp
/-- The text that the statement makes. -/
def fencedOf (n : Nat) (L : List (List UInt8)) : List UInt8 := gr n ++ soItIs ++ [10] ++ (L.map (fun p => p ++ [10])).flatten ++ gr n ++ [10] ++ hashA
theorem fenced_lines (n : Nat) (L : List (List UInt8)) (h : ∀ p ∈ L, 10 ∉ p) : lines (fencedOf n L) = (gr n ++ soItIs) :: (L ++ [gr n, hashA]) := by
  have h10 : (10 : UInt8) ∉ gr n := by simp [gr]
  have h11 : (10 : UInt8) ∉ gr n ++ soItIs := by simp [gr, soItIs]
  have e1 : fencedOf n L = (gr n ++ soItIs) ++ 10 :: ((L.map (fun p => p ++ [10])).flatten ++ (gr n ++ 10 :: hashA)) := by
    simp [fencedOf, List.append_assoc]
  have hne : fencedOf n L ≠ [] := by rw [e1]; simp
  have ht : Lib.trimSuffix (fencedOf n L) [10] = fencedOf n L := by
    unfold Lib.trimSuffix
    rw [if_neg]
    unfold Lib.hasSuffix
    have e2 : fencedOf n L = (gr n ++ soItIs ++ [10] ++ (L.map (fun p => p ++ [10])).flatten ++ gr n ++ [10] ++ [35, 32]) ++ [97] := by simp [fencedOf, hashA]
    rw [e2]
    simp only [List.isSuffixOf_iff_suffix]
    rintro ⟨t, ht⟩
    have := (List.append_inj' ht rfl).2
    simp at this
  unfold lines; rw [if_neg hne, ht, e1, nl_line _ _ h11, nl_lines L _ h, nl_line _ _ h10]
  rfl
theorem fenced_all (d n : Nat) (m : Nat) (l : List UInt8) (hm : 2 ≤ m) (hn : most m 0 l < n) :
    (readRow (d + 1) (lines (fencedOf n (lines l)))).1 = [.mk 3 0 soInfo (((lines l).map (fun p => p ++ [10])).flatten) false [], .mk 2 1 [] [97] false []] := by
  have hge := most_ge m 0 l
  rw [fenced_lines n _ (lines_no l)]
  exact fenced_row d n _ (by omega) (fun p hp k => Nat.lt_of_le_of_lt (lines_cnt m l p hp k) hn)
/-- The other text: 1. --- -/
def oneRule : List UInt8 := [49, 46, 32, 45, 45, 45, 10]
theorem oneRule_row (d : Nat) : (readRow (d + 2) (lines oneRule)).1 = [.mk 6 1 [] [] false [.mk 7 0 [] [] false [.mk 4 0 [] [] false []]]] := by
  have h1 : lines oneRule = [[49, 46, 32, 45, 45, 45]] := by decide
  rw [h1]
  rfl

end Go.Proofs.YtpoaadfkalnjgaaGreatDoor.S
