/- Escaped texts: their blocks, their nodes. -/
import Derived.Test.YtlojgpkajkedeaaGreatDoorXS
import Derived.Test.YtlojgpkajkedeaaGreatDoorLM
namespace Go.Proofs.YtlojgpkajkedeaaGreatDoor
open Go.RowKit
namespace S

theorem trimRight_last (l : List UInt8) (c x : UInt8) (h : x ≠ c) : Lib.trimRightB (l ++ [x]) c = l ++ [x] := by
  unfold Lib.trimRightB
  rw [List.reverse_append]
  show (List.dropWhile _ (x :: l.reverse)).reverse = _
  rw [List.dropWhile_cons, if_neg (by simpa using h)]
  simp
theorem trimLeft_first (l : List UInt8) (c x : UInt8) (h : x ≠ c) : Lib.trimLeftB (x :: l) c = x :: l := by
  unfold Lib.trimLeftB
  rw [List.dropWhile_cons, if_neg (by simpa using h)]

theorem par_row (p : List UInt8) (d : Nat) (x : UInt8) (l : List UInt8) (hp : p = l ++ [x]) (hx : x ≠ 32) (hi : indent p = 0) (h1 : isRule p = false) (h2 : titleLevel p = 0) (h3 : (fence p).ok = false) (h4 : isQuoted p = false) (h5 : (item p).ok = false) :
    readRow (d + 1) [p] = ([.mk 1 0 [] p false []], false) := by
  have hb : blank p = false := by
    unfold blank; rw [hi, hp]; simp
  have hc : countBlank [p] = 0 := by simp only [countBlank, hb]; rfl
  have ht : Lib.trimRightB (joinLines [p]) 32 = p := by
    show Lib.trimRightB (p.drop (indent p)) 32 = p
    rw [hi, List.drop_zero, hp, trimRight_last l 32 x hx]
  have hbk : readBlock (readRow d) [p] = (.mk 1 0 [] p false [], 1) := by
    unfold readBlock
    dsimp only
    rw [if_neg (by rw [hi]; omega), if_neg (by rw [h1]; simp), h2, if_neg (by omega), if_neg (by rw [h3]; simp), if_neg (by rw [h4]; simp), if_neg (by rw [h5]; simp)]
    show (Blk.mk 1 0 [] (Lib.trimRightB (joinLines [p]) 32) false [], 1) = _
    rw [ht]
  rw [show readRow (d + 1) [p] = rowFrom (readRow d) [p].length [p].length ([p].drop (countBlank [p])) from rfl, hc, List.drop_zero]
  show rowFrom (readRow d) 1 (0 + 1) [p] = _
  rw [rowFrom_step _ _ _ _ (by simp), hbk]
  rfl

theorem esc_signs (cs : List UInt8) (hs : ∀ b ∈ cs, Sign b) : ∀ x ∈ esc cs ++ [97], x ≠ 10 ∧ x ≠ 32 := by
  induction cs with
  | nil => intro x hx; simp [esc] at hx; subst hx; decide
  | cons b cs ih =>
    intro x hx
    rw [esc_cons, List.append_assoc] at hx
    have hb := hs b (by simp)
    have hbn : b ≠ 10 ∧ b ≠ 32 := by
      rcases hb with h | h
      · exact ⟨alnum_ne h (by decide), alnum_ne h (by decide)⟩
      · constructor <;> (rintro rfl; exact absurd h (by decide))
    rcases List.mem_append.1 hx with hx | hx
    · unfold esc1 at hx
      split at hx
      · simp at hx; subst hx; exact hbn
      · simp at hx; rcases hx with rfl | rfl
        · decide
        · exact hbn
    · exact ih (fun y hy => hs y (by simp [hy])) x hx
theorem esc_digs (cs : List UInt8) (hs : ∀ b ∈ cs, Sign b) : ∃ c, (esc cs ++ [97])[digs (esc cs ++ [97])]? = some c ∧ (c = 92 ∨ letter c = true) := by
  induction cs with
  | nil => exact ⟨97, rfl, .inr (by decide)⟩
  | cons b cs ih =>
    rw [esc_cons, List.append_assoc]
    unfold esc1
    by_cases ha : alnum b = true
    · rw [if_pos ha]
      show ∃ c, (b :: (esc cs ++ [97]))[digs (b :: (esc cs ++ [97]))]? = some c ∧ _
      by_cases hd : isDig b = true
      · obtain ⟨c, h1, h2⟩ := ih (fun y hy => hs y (by simp [hy]))
        refine ⟨c, ?_, h2⟩
        simp only [digs, if_pos hd, List.getElem?_cons_succ]
        exact h1
      · refine ⟨b, ?_, .inr ?_⟩
        · simp only [digs, if_neg hd]; rfl
        · unfold alnum at ha; simpa [hd] using ha
    · rw [if_neg ha]
      refine ⟨92, ?_, .inl rfl⟩
      show (92 :: b :: (esc cs ++ [97]))[digs (92 :: b :: (esc cs ++ [97]))]? = some 92
      simp only [digs]
      rw [if_neg (by decide)]; rfl
theorem esc_item (cs : List UInt8) (hs : ∀ b ∈ cs, Sign b) (hsh : shallow (esc cs ++ [97]) = esc cs ++ [97]) : (item (esc cs ++ [97])).ok = false := by
  obtain ⟨c, h1, h2⟩ := esc_digs cs hs
  rw [item_no _ (.inl (by
    rw [hsh]
    refine markerSize_no _ c h1 ?_
    unfold markEnds
    rcases h2 with rfl | h2
    · split <;> decide
    · have hne : ∀ x : UInt8, letter x = false → c ≠ x := fun x hx e => by rw [e, hx] at h2; cases h2
      split
      · simp [hne 45 (by decide), hne 43 (by decide), hne 42 (by decide)]
      · simp [hne 46 (by decide), hne 41 (by decide)]))]
/-- The first sign of an escaped text. -/
theorem esc_head (cs : List UInt8) (hs : ∀ b ∈ cs, Sign b) : ∃ b t, esc cs ++ [97] = b :: t ∧ (alnum b = true ∨ b = 92) := by
  cases cs with
  | nil => exact ⟨97, [], rfl, .inl (by decide)⟩
  | cons c cs =>
    rw [esc_cons]
    unfold esc1
    by_cases ha : alnum c = true
    · rw [if_pos ha]; exact ⟨c, _, rfl, .inl ha⟩
    · rw [if_neg ha]; exact ⟨92, _, rfl, .inr rfl⟩
theorem head_ne {b x : UInt8} (h : alnum b = true ∨ b = 92) (hx : alnum x = false) (h92 : x ≠ 92) : b ≠ x := by
  rcases h with h | rfl
  · exact alnum_ne h hx
  · exact Ne.symm h92
theorem esc_row (cs : List UInt8) (hs : ∀ b ∈ cs, Sign b) (d : Nat) : readRow (d + 1) [esc cs ++ [97]] = ([.mk 1 0 [] (esc cs ++ [97]) false []], false) := by
  obtain ⟨b, t, hbt, hb⟩ := esc_head cs hs
  have h32 : b ≠ 32 := head_ne hb (by decide) (by decide)
  have hsh : shallow (esc cs ++ [97]) = esc cs ++ [97] := by rw [hbt]; exact shallow_cons b t h32
  have hsh2 : shallow (esc cs ++ [97]) = b :: t := by rw [hsh, hbt]
  refine par_row _ d 97 (esc cs) rfl (by decide) (by rw [hbt]; exact indent_cons b t h32) (isRule_no _ b t hsh2 ?_) ?_ ?_ ?_ (esc_item cs hs hsh)
  · simp [head_ne hb (x := 42) (by decide) (by decide), head_ne hb (x := 45) (by decide) (by decide), head_ne hb (x := 95) (by decide) (by decide)]
  · unfold titleLevel; rw [hsh2]; simp [cnt, head_ne hb (x := 35) (by decide) (by decide)]
  · rw [fence_no _ b t hsh2 (head_ne hb (by decide) (by decide)) (head_ne hb (by decide) (by decide))]
  · unfold isQuoted Lib.hasPrefix; rw [hsh2]
    show ((62 : UInt8) == b && List.isPrefixOf [] t) = false
    rw [beq_eq_false_iff_ne.2 (Ne.symm (head_ne hb (by decide) (by decide)))]; rfl
theorem title_row (cs : List UInt8) (hs : ∀ b ∈ cs, Sign b) (d : Nat) : readRow (d + 1) [35 :: 32 :: (esc cs ++ [97])] = ([.mk 2 1 [] (esc cs ++ [97]) false []], false) := by
  obtain ⟨b, t, hbt, hb⟩ := esc_head cs hs
  have h32 : b ≠ 32 := head_ne hb (by decide) (by decide)
  obtain ⟨T, hT⟩ : ∃ T, esc cs ++ [97] = T := ⟨_, rfl⟩
  have hTl : T = esc cs ++ [97] := hT.symm
  have hsh := shallow_cons 35 (32 :: T) (by decide)
  have hlv : titleLevel (35 :: 32 :: T) = 1 := by
    unfold titleLevel; rw [hsh]; simp [cnt, endsWord]
  have hto : titleOpen (35 :: 32 :: T) = T := by
    unfold titleOpen; rw [hsh]
    show Lib.trimB ((35 :: 32 :: T).drop (cnt 35 (35 :: 32 :: T))) 32 = T
    rw [show cnt 35 (35 :: 32 :: T) = 1 by simp [cnt]]
    show Lib.trimB (32 :: T) 32 = T
    unfold Lib.trimB
    rw [hTl, show (32 : UInt8) :: (esc cs ++ [97]) = (32 :: esc cs) ++ [97] from rfl, trimRight_last _ 32 97 (by decide)]
    show Lib.trimLeftB (32 :: (esc cs ++ [97])) 32 = _
    rw [hbt]
    unfold Lib.trimLeftB
    rw [List.dropWhile_cons, if_pos (by decide)]
    exact trimLeft_first t 32 b h32
  have htc : titleContent (35 :: 32 :: T) = T := by
    unfold titleContent
    rw [hto, hTl, trimRight_last _ 35 97 (by decide), if_neg]
    rintro (h | h)
    · simp at h
    · unfold Lib.hasSuffix at h
      rw [List.isSuffixOf_iff_suffix] at h
      obtain ⟨u, hu⟩ := h
      have := (List.append_inj' hu rfl).2
      simp at this
  have hbk : readBlock (readRow d) [35 :: 32 :: T] = (.mk 2 1 [] T false [], 1) := by
    unfold readBlock
    dsimp only
    rw [if_neg (by rw [indent_cons _ _ (by decide)]; omega), if_neg (by rw [isRule_no _ 35 (32 :: T) hsh (by decide)]; simp), hlv, if_pos (by omega), htc]
    rfl
  have hc : countBlank [35 :: 32 :: T] = 0 := by
    have hb : blank (35 :: 32 :: T) = false := by unfold blank; rw [indent_cons _ _ (by decide)]; simp
    simp only [countBlank, hb]; rfl
  rw [hT, show readRow (d + 1) [35 :: 32 :: T] = rowFrom (readRow d) [35 :: 32 :: T].length [35 :: 32 :: T].length ([35 :: 32 :: T].drop (countBlank [35 :: 32 :: T])) from rfl, hc, List.drop_zero]
  show rowFrom (readRow d) 1 (0 + 1) [35 :: 32 :: T] = _
  rw [rowFrom_step _ _ _ _ (by simp), hbk]
  rfl
theorem count_lt (l : List UInt8) (a b x : UInt8) (hx : x ∈ l) (h1 : x ≠ a) (h2 : x ≠ b) (hab : a ≠ b) : l.count a + l.count b < l.length := by
  induction l with
  | nil => simp at hx
  | cons y t ih =>
    have hle : ∀ u : List UInt8, u.count a + u.count b ≤ u.length := by
      intro u
      induction u with
      | nil => simp
      | cons z v ihv =>
        rw [List.count_cons, List.count_cons, List.length_cons]
        by_cases e1 : z = a
        · subst e1; simp [hab]; omega
        · by_cases e2 : z = b
          · subst e2; simp [e1]; omega
          · simp [e1, e2]; omega
    rw [List.count_cons, List.count_cons, List.length_cons]
    rcases List.mem_cons.1 hx with rfl | hx
    · have := hle t; simp [h1, h2]; omega
    · have := ih hx
      by_cases e1 : y = a
      · subst e1; simp [hab]; omega
      · by_cases e2 : y = b
        · subst e2; simp [e1]; omega
        · simp [e1, e2]; omega
theorem star_rule (t : List UInt8) (h : 97 ∈ t) : isRule (42 :: t) = false := by
  unfold isRule
  rw [shallow_cons 42 t (by decide)]
  have := count_lt (42 :: t) 42 32 97 (by simp [h]) (by decide) (by decide) (by decide)
  simp only []
  rw [decide_eq_false (show ¬ (42 :: t).count 42 + (42 :: t).count 32 = (42 :: t).length by omega)]
  simp
theorem strong_row (c : List UInt8) (l : List UInt8) (hc : c = 42 :: 42 :: l) (h97 : 97 ∈ l) (x : UInt8) (l' : List UInt8) (hl : c = l' ++ [x]) (hx : x ≠ 32) (d : Nat) : readRow (d + 1) [c] = ([.mk 1 0 [] c false []], false) := by
  have hsh : shallow c = 42 :: 42 :: l := by rw [hc]; exact shallow_cons 42 _ (by decide)
  refine par_row c d x l' hl hx (by rw [hc]; exact indent_cons _ _ (by decide)) (by rw [hc]; exact star_rule _ (by simp [h97])) ?_ ?_ ?_ ?_
  · unfold titleLevel; rw [hsh]; simp [cnt]
  · rw [fence_no _ 42 (42 :: l) hsh (by decide) (by decide)]
  · unfold isQuoted Lib.hasPrefix; rw [hsh]; rfl
  · have hd : digs (42 :: 42 :: l) = 0 := by simp [digs, isDig]
    have hm : markerSize (42 :: 42 :: l) = 1 := by
      rw [markerSize_yes _ 42 (by rw [hd]; omega) (by rw [hd]; rfl) (by rw [hd]; decide), hd]
    rw [item_no _ (.inr (by rw [hsh, hm]; simp [endsWord]))]
theorem star_item (c l : List UInt8) (hc : c = 42 :: 42 :: l) : item ([42, 32] ++ c) = ⟨42, -1, 2, false, true⟩ := by
  show item (42 :: 32 :: c) = _
  have hs := shallow_cons 42 (32 :: c) (by decide)
  have hd : digs (42 :: 32 :: c) = 0 := by simp [digs, isDig]
  have hm : markerSize (42 :: 32 :: c) = 1 := by
    rw [markerSize_yes _ 42 (by rw [hd]; omega) (by rw [hd]; rfl) (by rw [hd]; decide), hd]
  have he : endsWord (42 :: 32 :: c) 1 = true := by simp [endsWord]
  have hb : blank c = false := by unfold blank; rw [hc, indent_cons _ _ (by decide)]; simp
  have hi : indent c = 0 := by rw [hc]; exact indent_cons _ _ (by decide)
  rw [item_yes _ (by rw [hs, hm, he]; simp), hs, hm]
  simp only [List.drop_succ_cons, List.drop_zero, blank_space, hb, indent_space, hi, indent_cons 42 (32 :: c) (by decide)]
  rfl
theorem item_rowS (c l : List UInt8) (hc : c = 42 :: 42 :: l) (h97 : 97 ∈ l) (x : UInt8) (l' : List UInt8) (hl : c = l' ++ [x]) (hx : x ≠ 32) (d : Nat) :
    readRow (d + 2) [[42, 32] ++ c] = ([.mk 6 (-1) [] [] false [.mk 7 0 [] [] false [.mk 1 0 [] c false []]]], false) := by
  have hsr := strong_row c l hc h97 x l' hl hx d
  have hit := star_item c l hc
  have hsh : shallow ([42, 32] ++ c) = 42 :: (32 :: c) := shallow_cons 42 _ (by decide)
  have hin : indent ([42, 32] ++ c) = 0 := indent_cons 42 _ (by decide)
  have hru : isRule ([42, 32] ++ c) = false := star_rule (32 :: c) (by rw [hc]; simp [h97])
  have hrow : listRow [42, 32] c [] = [[42, 32] ++ c] := rfl
  have hown := listRow_own [42, 32] c [] (-1) 42 (by simp)
  rw [hrow] at hown
  have hown' : itemRow ⟨42, -1, 2, false, true⟩ [[42, 32] ++ c] = [c] := hown
  have hbk : readBlock (readRow (d + 1)) [[42, 32] ++ c] = (.mk 6 (-1) [] [] false [.mk 7 0 [] [] false [.mk 1 0 [] c false []]], 1) := by
    unfold readBlock
    dsimp only
    rw [if_neg (by rw [hin]; omega), if_neg (by rw [hru]; simp), show titleLevel ([42, 32] ++ c) = 0 by unfold titleLevel; rw [hsh]; simp [cnt], if_neg (by omega), if_neg (by rw [fence_no _ 42 (32 :: c) hsh (by decide) (by decide)]; simp), if_neg (by unfold isQuoted Lib.hasPrefix; rw [hsh]; simp), hit, if_pos rfl, readList_eq]
    dsimp only
    show (Blk.mk 6 (-1) [] [] (listFrom (readRow (d + 1)) 42 1 (0 + 1) ⟨42, -1, 2, false, true⟩ [[42, 32] ++ c]).2.1 (listFrom (readRow (d + 1)) 42 1 (0 + 1) ⟨42, -1, 2, false, true⟩ [[42, 32] ++ c]).1, (listFrom (readRow (d + 1)) 42 1 (0 + 1) ⟨42, -1, 2, false, true⟩ [[42, 32] ++ c]).2.2) = _
    rw [listFrom_succ, hown', hsr]
    rfl
  have hcb : countBlank [[42, 32] ++ c] = 0 := by
    have hb : blank ([42, 32] ++ c) = false := by unfold blank; rw [hin]; simp
    simp only [countBlank, hb]; rfl
  rw [show readRow (d + 2) [[42, 32] ++ c] = rowFrom (readRow (d + 1)) [[42, 32] ++ c].length [[42, 32] ++ c].length ([[42, 32] ++ c].drop (countBlank [[42, 32] ++ c])) from rfl, hcb, List.drop_zero]
  show rowFrom (readRow (d + 1)) 1 (0 + 1) [[42, 32] ++ c] = _
  rw [rowFrom_step _ _ _ _ (by simp), hbk]
  rfl
end S
end Go.Proofs.YtlojgpkajkedeaaGreatDoor
