import Derived.Test.YtlojgpkajkedeaaGreatDoorQN
import Derived.Test.YtlojgpkajkedeaaGreatDoorEB
import Derived.Test.YtlojgpkajkedeaaGreatDoorEC
import Derived.BigRegion
/- What is read of a block hangs on its own lines alone: plain. -/
namespace Go.Proofs.YtlojgpkajkedeaaGreatDoor
open Go.RowKit
namespace S

theorem cdf_or (m : Int) (z k : Nat) (l : List (List UInt8)) (h : z ≤ k) : countDeepFrom m z k l = z ∨ k + 1 ≤ countDeepFrom m z k l := by
  induction l generalizing z k with
  | nil => exact .inl rfl
  | cons x r ih =>
    simp only [countDeepFrom]
    split
    · rcases ih z (k + 1) (by omega) with h1 | h1
      · exact .inl h1
      · exact .inr (by omega)
    · split
      · exact .inl rfl
      · have := countDeepFrom_ge m (k + 1) (k + 1) r (Nat.le_refl _)
        exact .inr this
theorem cdf_take (m : Int) (z k n : Nat) (l : List (List UInt8)) (h : z ≤ k) (hn : countDeepFrom m z k l ≤ k + n) : countDeepFrom m z k (l.take n) = countDeepFrom m z k l := by
  induction l generalizing z k n with
  | nil => simp
  | cons x r ih =>
    cases n with
    | zero =>
      rcases cdf_or m z k (x :: r) h with h1 | h1
      · rw [h1]; rfl
      · omega
    | succ n =>
      simp only [List.take_succ_cons, countDeepFrom] at hn ⊢
      split
      · rename_i hb; rw [if_pos hb] at hn; exact ih z (k + 1) n (by omega) (by omega)
      · rename_i hb
        rw [if_neg hb] at hn
        split
        · rfl
        · rename_i hm; rw [if_neg hm] at hn; exact ih (k + 1) (k + 1) n (Nat.le_refl _) (by omega)
theorem cd_take (m : Int) (n : Nat) (l : List (List UInt8)) (hn : countDeep m l ≤ n) : countDeep m (l.take n) = countDeep m l := by
  have h1 := countDeep_pos m l
  cases n with
  | zero => omega
  | succ n =>
    cases l with
    | nil => simp
    | cons x r =>
      simp only [countDeep, List.take_succ_cons, List.tail_cons] at hn ⊢
      exact cdf_take m 1 1 n r (Nat.le_refl _) (by omega)
theorem cb_take (l : List (List UInt8)) (n : Nat) : countBlank (l.take n) = min (countBlank l) n := by
  induction l generalizing n with
  | nil => simp [countBlank]
  | cons x r ih =>
    cases n with
    | zero => simp [countBlank]
    | succ n =>
      simp only [List.take_succ_cons, countBlank]
      split
      · rw [ih]; omega
      · simp
theorem fs_take (c : UInt8) (w : Nat) (l : List (List UInt8)) (n : Nat) (h : fencedSize c w l ≤ n) : fencedSize c w (l.take n) = fencedSize c w l := by
  induction l generalizing n with
  | nil => simp
  | cons x r ih =>
    simp only [fencedSize] at h
    cases n with
    | zero =>
      split at h
      · rename_i hx; simp [fencedSize, hx]
      · omega
    | succ n =>
      simp only [List.take_succ_cons, fencedSize]
      split
      · rfl
      · rename_i hx; rw [if_neg hx] at h; rw [ih n (by omega)]
theorem ps_take (l : List (List UInt8)) (n : Nat) (h : parSize l ≤ n) : parSize (l.take n) = parSize l := by
  induction l generalizing n with
  | nil => simp
  | cons x r ih =>
    simp only [parSize] at h
    cases n with
    | zero =>
      split at h
      · rename_i hx; simp [parSize, hx]
      · omega
    | succ n =>
      simp only [List.take_succ_cons, parSize]
      split
      · rfl
      · rename_i hx; rw [if_neg hx] at h; rw [ih n (by omega)]
theorem qr_take (l : List (List UInt8)) (n : Nat) (h : (quoteRow l).length ≤ n) : quoteRow (l.take n) = quoteRow l := by
  induction l generalizing n with
  | nil => simp
  | cons x r ih =>
    simp only [quoteRow] at h
    cases n with
    | zero =>
      split at h
      · simp at h
      · rename_i hx; simp [quoteRow, hx]
    | succ n =>
      simp only [List.take_succ_cons, quoteRow]
      split
      · rename_i hx; rw [if_pos hx] at h; rw [ih n (by simpa using h)]
      · rfl
theorem blank_iff (l : List UInt8) : blank l = true ↔ ∀ b ∈ l, b = 32 := by
  unfold blank indent
  rw [decide_eq_true_eq]
  induction l with
  | nil => simp [cnt]
  | cons c r ih =>
    have hle := cnt_le 32 r
    simp only [cnt, List.length_cons]
    split
    · rename_i h
      constructor
      · intro e b hb
        rcases List.mem_cons.1 hb with rfl | hb
        · exact h
        · exact ih.1 (by omega) b hb
      · intro e; rw [ih.2 (fun b hb => e b (List.mem_cons_of_mem _ hb))]
    · rename_i h
      constructor
      · intro e; omega
      · intro e; exact absurd (e c (by simp)) h
theorem blank_drop (l : List UInt8) (j k : Nat) (h : j ≤ k) (hb : blank (l.drop j) = true) : blank (l.drop k) = true := by
  rw [blank_iff] at hb ⊢
  intro b hm
  apply hb b
  obtain ⟨d, rfl⟩ : ∃ d, k = j + d := ⟨k - j, by omega⟩
  rw [← List.drop_drop] at hm
  exact List.mem_of_mem_drop hm
theorem item_rest (l : List UInt8) (ho : (item l).ok = true) (he : (item l).empty = true) : blank (l.drop (item l).margin) = true := by
  unfold item at ho he ⊢
  split at ho
  · simp at ho
  · rename_i hn
    rw [if_neg hn] at he ⊢
    dsimp only at he ⊢
    have hd : ¬ 4 ≤ indent l := by
      intro h
      rw [shallow_deep l h] at hn
      exact hn (.inl (by simp [markerSize]))
    rw [shallow_flat l hd] at he ⊢
    rw [List.drop_drop] at he
    exact blank_drop l _ _ (by omega) he
/-- What is read of blank lines: nothing. -/
def Quiet (sub : List (List UInt8) → List Blk × Bool) : Prop := ∀ x, (∀ l ∈ x, blank l = true) → sub x = ([], false)
theorem ir_take (sub : List (List UInt8) → List Blk × Bool) (hq : Quiet sub) (l : List UInt8) (r : List (List UInt8)) (n : Nat) (ho : (item l).ok = true) (hn : (itemRow (item l) (l :: r)).length ≤ n) :
    (itemRow (item l) ((l :: r).take n)).length = (itemRow (item l) (l :: r)).length ∧ sub (itemRow (item l) ((l :: r).take n)) = sub (itemRow (item l) (l :: r)) := by
  have h1 := itemRow_le (item l) (l :: r) (by simp)
  by_cases hc : (item l).empty = true ∧ ((l :: r)[1]?.map blank) = some true
  · have e0 : itemRow (item l) (l :: r) = [[]] := by unfold itemRow; rw [if_pos hc]
    rw [e0] at hn h1 ⊢
    by_cases h2 : 2 ≤ n
    · have e1 : itemRow (item l) ((l :: r).take n) = [[]] := by
        unfold itemRow; rw [if_pos ⟨hc.1, by rw [List.getElem?_take_of_lt (by omega)]; exact hc.2⟩]
      rw [e1]; exact ⟨rfl, rfl⟩
    · have hn1 : n = 1 := by simp at hn; omega
      subst hn1
      have e1 : itemRow (item l) ((l :: r).take 1) = [l.drop (item l).margin] := by
        unfold itemRow
        rw [if_neg (by simp)]
        simp [countDeep, countDeepFrom]
      rw [e1]
      refine ⟨rfl, ?_⟩
      rw [hq _ (by intro x hx; simp at hx; subst hx; exact item_rest l ho hc.1), hq _ (by intro x hx; simp at hx; subst hx; rfl)]
  · have e0 : itemRow (item l) (l :: r) = ((l :: r).take (countDeep (item l).margin (l :: r))).map (fun x => x.drop (item l).margin) := by unfold itemRow; rw [if_neg hc]
    have hcd := countDeep_le ((item l).margin : Int) (l :: r) (by simp)
    have hcn : countDeep (item l).margin (l :: r) ≤ n := by
      rw [e0, List.length_map, List.length_take] at hn; omega
    have e1 : itemRow (item l) ((l :: r).take n) = itemRow (item l) (l :: r) := by
      rw [e0]
      unfold itemRow
      rw [if_neg, cd_take _ n _ hcn, List.take_take, Nat.min_eq_left hcn]
      intro h
      apply hc
      refine ⟨h.1, ?_⟩
      have h2 := h.2
      rw [List.getElem?_take] at h2
      split at h2
      · exact h2
      · simp at h2
    rw [e1]; exact ⟨rfl, rfl⟩
theorem lf_take (sub : List (List UInt8) → List Blk × Bool) (hq : Quiet sub) (kind : UInt8) (f : Nat) : ∀ (l : List UInt8) (r : List (List UInt8)) (n Z Z' f' : Nat), (item l).ok = true → (l :: r).length ≤ f → ((l :: r).take n).length ≤ f' → (l :: r).length ≤ Z → ((l :: r).take n).length ≤ Z' → Z - (l :: r).length = Z' - ((l :: r).take n).length → (listFrom sub kind Z f (item l) (l :: r)).2.2 ≤ n → listFrom sub kind Z' f' (item l) ((l :: r).take n) = listFrom sub kind Z f (item l) (l :: r) := by
  induction f with
  | zero => intro l r n Z Z' f' _ h; simp at h
  | succ f ih =>
    intro l r n Z Z' f' ho hf hf' hZ hZ' hzz hn
    obtain ⟨row, hrow⟩ : ∃ row, row = l :: r := ⟨_, rfl⟩
    have hsz := listFrom_size sub kind Z (f + 1) (item l) (l :: r) (by simp) hf
    have hlt : 1 ≤ ((l :: r).take n).length := by rw [List.length_take, List.length_cons]; omega
    obtain ⟨g', rfl⟩ : ∃ g', f' = g' + 1 := ⟨f' - 1, by omega⟩
    rw [listFrom_succ] at hn
    rw [listFrom_succ, listFrom_succ]
    have ha1 := itemRow_le (item l) (l :: r) (by simp)
    obtain ⟨a, ha⟩ : ∃ a, (itemRow (item l) (l :: r)).length = a := ⟨_, rfl⟩
    have han : a ≤ n := by
      rw [ha] at hn
      split at hn
      · dsimp only at hn; omega
      · exact hn
    have hi := ir_take sub hq l r n ho (by rw [ha]; exact han)
    rw [hi.1, hi.2]
    rw [ha] at hn ha1 ⊢
    have hd1 : ((l :: r).take n).drop a = ((l :: r).drop a).take (n - a) := List.drop_take
    rw [hd1, cb_take]
    obtain ⟨g, hg⟩ : ∃ g, countBlank ((l :: r).drop a) = g := ⟨_, rfl⟩
    rw [hg] at hn ⊢
    have hgl := countBlank_le ((l :: r).drop a)
    rw [hg, List.length_drop] at hgl
    have hzE : ((Z' - ((l :: r).take n).length : Nat) : Int) = ((Z - (l :: r).length : Nat) : Int) := by rw [hzz]
    by_cases hk : (nextItem kind ((l :: r).drop (a + g))).ok = true
    · rw [if_pos hk] at hn
      rw [if_pos hk]
      dsimp only at hn
      have hp := nextItem_ok _ _ hk
      cases hd : (l :: r).drop (a + g) with
      | nil => rw [hd] at hp; simp at hp
      | cons l2 r2 =>
        rw [hd] at hn hk
        have hy := nextItem_yes kind l2 r2 hk
        have hlen2 : (l2 :: r2).length = (l :: r).length - (a + g) := by rw [← hd, List.length_drop]
        have hsz2 := listFrom_size sub kind Z f (item l2) (l2 :: r2) (by simp) (by rw [hlen2]; omega)
        rw [hy.1] at hn
        have hgm : min g (n - a) = g := by omega
        rw [hgm]
        have hd2 : ((l :: r).take n).drop (a + g) = (l2 :: r2).take (n - (a + g)) := by rw [List.drop_take, hd]
        have hne : ∃ r3, (l2 :: r2).take (n - (a + g)) = l2 :: r3 := ⟨r2.take (n - (a + g) - 1), by
          obtain ⟨q, hq⟩ : ∃ q, n - (a + g) = q + 1 := ⟨n - (a + g) - 1, by omega⟩
          rw [hq]; rfl⟩
        have hnx : nextItem kind ((l2 :: r2).take (n - (a + g))) = nextItem kind (l2 :: r2) := by
          obtain ⟨r3, h3⟩ := hne; rw [h3]; rfl
        rw [hd2, hnx, if_pos hk, hy.1]
        have hl2 : ((l2 :: r2).take (n - (a + g))).length = ((l :: r).take n).length - (a + g) := by rw [← hd2, List.length_drop]
        have hlt2 : a + g ≤ ((l :: r).take n).length := by rw [List.length_take]; rw [hlen2] at hsz2; omega
        rw [ih l2 r2 (n - (a + g)) Z Z' g' hy.2.2 (by rw [hlen2]; omega) (by rw [hl2]; omega) (by omega) (by rw [hl2]; omega) (by rw [hlen2, hl2]; rw [hlen2] at hsz2; omega) (by omega), hzE]
    · rw [if_neg hk] at hn
      rw [if_neg hk]
      have hnx : ¬ (nextItem kind (((l :: r).take n).drop (a + min g (n - a)))).ok = true := by
        by_cases hlt3 : g < n - a
        · rw [Nat.min_eq_left (by omega), List.drop_take]
          obtain ⟨q, hq⟩ : ∃ q, n - (a + g) = q + 1 := ⟨n - (a + g) - 1, by omega⟩
          rw [hq]
          cases hd : (l :: r).drop (a + g) with
          | nil => simp [nextItem]
          | cons l2 r2 => rw [hd] at hk; exact hk
        · rw [Nat.min_eq_right (by omega), show a + (n - a) = n by omega, List.drop_eq_nil_of_le (by rw [List.length_take]; omega)]
          simp [nextItem]
      rw [if_neg hnx, hzE]
theorem rb_take (sub : List (List UInt8) → List Blk × Bool) (hq : Quiet sub) (x : List UInt8) (r : List (List UInt8)) (n : Nat) (hn : (readBlock sub (x :: r)).2 ≤ n) : readBlock sub ((x :: r).take n) = readBlock sub (x :: r) := by
  by_cases hlen : (x :: r).length ≤ n
  · rw [List.take_of_length_le hlen]
  have hsz := readBlock_size sub x r
  obtain ⟨k, rfl⟩ : ∃ k, n = k + 1 := ⟨n - 1, by omega⟩
  have hk : k < r.length := by simp only [List.length_cons] at hlen; omega
  rw [List.take_succ_cons]
  clear hsz
  unfold readBlock at hn ⊢
  dsimp only at hn ⊢
  split
  · rename_i h1
    rw [if_pos h1] at hn
    unfold readIndented at hn ⊢
    dsimp only at hn
    rw [← List.take_succ_cons, cd_take _ _ _ hn, List.take_take, Nat.min_eq_left hn]
  rename_i h1
  rw [if_neg h1] at hn
  split
  · rfl
  rename_i h2
  rw [if_neg h2] at hn
  split
  · rfl
  rename_i h3
  rw [if_neg h3] at hn
  split
  · rename_i h4
    rw [if_pos h4] at hn
    unfold readFenced at hn ⊢
    simp only [List.tail_cons, List.length_cons] at hn ⊢
    obtain ⟨q, hq2⟩ : ∃ q, fencedSize (fence x).mark (fence x).width r = q := ⟨_, rfl⟩
    rw [hq2] at hn ⊢
    rw [fs_take _ _ _ _ (by rw [hq2]; omega), hq2, List.take_take, Nat.min_eq_left (by omega), List.length_take]
    congr 1
    omega
  rename_i h4
  rw [if_neg h4] at hn
  split
  · rename_i h5
    rw [if_pos h5] at hn
    rw [← List.take_succ_cons, qr_take _ _ hn]
  rename_i h5
  rw [if_neg h5] at hn
  split
  · rename_i h6
    rw [if_pos h6, readList_eq] at hn
    rw [readList_eq, readList_eq, ← List.take_succ_cons]
    rw [lf_take sub hq (item x).kind (x :: r).length x r (k + 1) (x :: r).length ((x :: r).take (k + 1)).length ((x :: r).take (k + 1)).length h6 (Nat.le_refl _) (Nat.le_refl _) (Nat.le_refl _) (Nat.le_refl _) (by omega) hn]
  rename_i h6
  rw [if_neg h6] at hn
  unfold readParagraph at hn ⊢
  dsimp only at hn ⊢
  simp only [List.tail_cons] at hn ⊢
  have hps : parSize r ≤ k := by
    split at hn
    · dsimp only at hn; omega
    · split at hn
      · dsimp only at hn; omega
      · dsimp only at hn; omega
  rw [ps_take r k hps]
  have htk : (x :: r.take k).take (parSize r + 1) = (x :: r).take (parSize r + 1) := by
    rw [List.take_succ_cons, List.take_succ_cons, List.take_take, Nat.min_eq_left hps]
  rw [htk]
  have hget : (x :: r.take k)[parSize r + 1]? = if parSize r < k then (x :: r)[parSize r + 1]? else none := by
    rw [List.getElem?_cons_succ, List.getElem?_cons_succ, List.getElem?_take]
  rw [hget]
  by_cases hlt : parSize r < k
  · rw [if_pos hlt]
  · rw [if_neg hlt]
    dsimp only
    split
    · rfl
    · rename_i l hl
      split
      · rename_i hu
        rw [hl] at hn
        dsimp only at hn
        rw [if_pos hu] at hn
        dsimp only at hn
        omega
      · rfl
theorem readRow_quiet (d : Nat) : Quiet (readRow d) := by
  intro x hx
  cases d with
  | zero => rfl
  | succ d =>
    show rowFrom (readRow d) x.length x.length (x.drop (countBlank x)) = _
    have hc : countBlank x = x.length := by
      clear d
      induction x with
      | nil => rfl
      | cons a r ih => simp only [countBlank]; rw [if_pos (hx a (by simp)), ih (fun l hl => hx l (by simp [hl]))]; rfl
    rw [hc, List.drop_length, rowFrom_nil]
theorem bytes_take (l : List (List UInt8)) (n : Nat) : bytes (l.take n) ≤ bytes l := by
  induction l generalizing n with
  | nil => simp
  | cons x r ih =>
    cases n with
    | zero => simp [bytes]
    | succ n => have := ih n; simp only [List.take_succ_cons, bytes, List.map_cons, List.sum_cons] at *; omega
/-- Two blocks with the same lines are the same. -/
theorem block_own (d d' : Nat) (x x' : List UInt8) (r r' : List (List UInt8)) (hd : bytes (x :: r) ≤ d) (hd' : bytes (x' :: r') ≤ d')
    (h : (x :: r).take (readBlock (readRow d) (x :: r)).2 = (x' :: r').take (readBlock (readRow d') (x' :: r')).2) :
    (readBlock (readRow d) (x :: r)).1 = (readBlock (readRow d') (x' :: r')).1 := by
  have h1 := rb_take (readRow d) (readRow_quiet d) x r _ (Nat.le_refl _)
  have h2 := rb_take (readRow d') (readRow_quiet d') x' r' _ (Nat.le_refl _)
  rw [← h1, ← h2, h]
  obtain ⟨L, hL⟩ : ∃ L, (x' :: r').take (readBlock (readRow d') (x' :: r')).2 = L := ⟨_, rfl⟩
  have hb1 : bytes L ≤ d := by
    rw [← hL, ← h]
    exact Nat.le_trans (bytes_take _ _) hd
  have hb2 : bytes L ≤ d' := by
    rw [← hL]
    exact Nat.le_trans (bytes_take _ _) hd'
  rw [hL, readBlock_congr (readRow d) (readRow d') (bytes L) (fun y hy => readRow_fuel d d' y (by omega) (by omega)) L (Nat.le_refl _)]
end S
end Go.Proofs.YtlojgpkajkedeaaGreatDoor
/- The blocks of a text with their lines; a sheet's text is set. -/
namespace Go.Proofs.YtlojgpkajkedeaaGreatDoor
open Go.RowKit

/-- The blocks of a text in memory, and their lines. -/
def ReadIn (s : ByteArray) (w w' : World) (v : Value) : Prop := Rep w' (fun x => w.heap.size ≤ x ∧ x < w'.heap.size) v (S.readRow (s.size + 1) (S.lines s.data.toList)).1 ∧ Below w.heap.size w w' ∧ ∃ (b cap : Nat) (ss : List ByteArray), dat ss = S.lines s.data.toList ∧ ss.length ≤ 1000000 ∧ (ss ≠ [] → w.heap.size ≤ b ∧ b < w'.heap.size ∧ RowS w' b 0 ss) ∧ LinesIn b 0 cap s.size ss w' v

set_option maxHeartbeats 1000000 in
theorem read_lines (s : ByteArray) (w : World) (hs : s.size ≤ 999990) (henv : Env w) :
    Calls Tryz.prog 45 #[.string s] w fun e w' => ∃ v, e = .returned v ∧ ReadIn s w w' v := by
  by_cases h0 : s.size = 0
  · have hl : Hid (S.readRow (s.size + 1) (S.lines s.data.toList) = ([], false)) := hid (by
      rw [S.data_nil_of_zero s h0]; rfl)
    have hl2 : Hid (S.lines s.data.toList = []) := hid (by rw [S.data_nil_of_zero s h0]; rfl)
    have hSE := hid (splitLines_empty s w h0)
    have hRN := hid (readRow_nil w)
    clear h0
    go_enter Tryz.func45, Tryz.ntmps45
    go_wp2_with fail
    refine hSE.out.mono ?_
    rintro e w' ⟨rfl, rfl⟩
    go_wp2_with fail
    refine hRN.out.mono ?_
    rintro e w' ⟨rfl, rfl⟩
    go_wp2
    go_ret
    refine ⟨_, rfl, by rw [hl.out]; exact .nil, Below.refl _ _, 0, 0, [], by rw [hl2.out]; rfl, by simp, fun h => absurd rfl h, ?_⟩
    intro i t hi
    have e : (S.readRow (s.size + 1) (dat [])).1 = [] := rfl
    rw [e] at hi
    simp at hi
  · have hSS := hid (splitLines_some s w (by omega) (by omega) henv)
    go_enter Tryz.func45, Tryz.ntmps45
    go_wp2_with fail
    refine hSS.out.mono ?_
    rintro e w1 ⟨os, rfl, hro, hdo, hlt, hb1⟩
    have hbt : bytes (dat os) < s.size + 1 := by
      rw [hdo.out]; unfold S.lines; split
      · simp [bytes]
      · have h1 := nl_bytes (Lib.trimSuffix s.data.toList [10])
        have h2 := Lib.trimSuffix_le s.data.toList [10]
        rw [S.length_data] at h2; omega
    have hol : os.length ≤ 1000000 := by
      have := S.lines_len s.data.toList
      rw [← hdo.out, dat_length, S.length_data] at this
      omega
    have hRR := hid (readRow_lines s.size (rowOK_all s.size) (readList_any s.size (rowOK_all s.size)) w.heap.size 0 os.length os w1 (Nat.le_refl _) hlt hro (henv.below hb1) hbt)
    have hb1H := hid hb1
    have hs1 := hb1.size
    have hroH := hid hro
    clear hb1 hro hbt
    go_wp2_with fail
    refine hRR.out.mono ?_
    rintro e w2 ⟨v, rfl, hrep, hb2, hli⟩
    obtain ⟨ka, kn, kc, rfl⟩ := hrep.form
    rw [hdo.out] at hrep
    have hrepH := hid hrep
    have hb2H := hid hb2
    have hliH := hid hli
    clear hrep hb2 hli
    go_wp2
    go_ret
    exact ⟨_, rfl, hrepH.out.move (fun x hx => ⟨by omega, hx.2⟩) (fun _ _ => rfl), hb1H.out.trans (hb2H.out.mono hs1), w.heap.size, os.length, os, hdo.out, hol, fun _ => ⟨Nat.le_refl _, Nat.lt_of_lt_of_le hlt hb2H.out.size, hroH.out.below hb2H.out hlt⟩, hliH.out⟩

end Go.Proofs.YtlojgpkajkedeaaGreatDoor
/- Blocks and their own lines; titles that move: plain. -/
namespace Go.Proofs.YtlojgpkajkedeaaGreatDoor
open Go.RowKit

/-- A block, wherever it begins, and the lines that it has. -/
def Own (t : S.Blk) (L : List (List UInt8)) : Prop := ∃ (d : Nat) (x : List UInt8) (r : List (List UInt8)), bytes (x :: r) ≤ d ∧ t.put 0 = (S.readBlock (S.readRow d) (x :: r)).1.put 0 ∧ L = (x :: r).take (S.readBlock (S.readRow d) (x :: r)).2
theorem own_same {t t' : S.Blk} {L : List (List UInt8)} (h : Own t L) (h' : Own t' L) : t.put 0 = t'.put 0 := by
  obtain ⟨d, x, r, h1, h2, h3⟩ := h
  obtain ⟨d', x', r', h1', h2', h3'⟩ := h'
  rw [h2, h2', S.block_own d d' x x' r r' h1 h1' (by rw [← h3, ← h3'])]
theorem ownL_of (d k : Nat) (rows : List (List UInt8)) (hk : k < rows.length) (hd : bytes rows ≤ d) (t : S.Blk) (ht : t = (S.readBlock (S.readRow d) (rows.drop k)).1.put (k : Int)) : Own t ((rows.drop k).take (S.readBlock (S.readRow d) (rows.drop k)).2) := by
  cases hr : rows.drop k with
  | nil => have := congrArg List.length hr; rw [List.length_drop] at this; simp at this; omega
  | cons x r =>
    rw [hr] at ht
    have hb := bytes_drop rows k
    rw [hr] at hb
    exact ⟨d, x, r, by omega, by rw [ht, put_put], rfl⟩
/-- A title that begins later. -/
def Tl.shift (c : Int) (x : Tl) : Tl := ⟨x.level, x.text, x.line + c⟩
mutual
theorem titB_shift : ∀ (b : S.Blk) (z c : Int), titB (z + c) b = (titB z b).map (Tl.shift c)
  | .at_ li k n i t lo kids => by
    intro z c
    have ih := titL_shift kids (z + li) c
    simp only [titB, List.map_append]
    rw [show z + c + li = z + li + c by omega, ih]
    congr 1
    split
    · simp [Tl.shift]
    · rfl
theorem titL_shift : ∀ (l : List S.Blk) (z c : Int), titL (z + c) l = (titL z l).map (Tl.shift c)
  | [] => by intro z c; simp [titL]
  | b :: r => by intro z c; simp only [titL, List.map_append]; rw [titB_shift b z c, titL_shift r z c]
end
theorem titB_put (b : S.Blk) : titB 0 b = (titB 0 (b.put 0)).map (Tl.shift b.line) := by
  rw [← titB_shift]
  cases b with
  | at_ li k n i t lo kids =>
    simp only [S.Blk.put, S.Blk.line, titB]
    rw [show (0 : Int) + li + 0 = 0 + li by omega]
theorem blkHt_same {t t' : S.Blk} (h : t.put 0 = t'.put 0) : blkHt contH false t = blkHt contH false t' := by
  rw [← blkHt_put false 0 t, ← blkHt_put false 0 t', h]
end Go.Proofs.YtlojgpkajkedeaaGreatDoor
/- What a sheet keeps in memory. -/
namespace Go.Proofs.YtlojgpkajkedeaaGreatDoor
open Go.RowKit

/-- Blocks of a kind are kept, and are of another kind, too. -/
def Moves (A A' : Nat → Prop) (w w' : World) : Prop := w.heap.size ≤ w'.heap.size ∧ ∀ x, A x → x < w.heap.size → A' x ∧ w'.heap[x]? = w.heap[x]?
theorem Moves.of {A : Nat → Prop} {w w' : World} (h : Below w.heap.size w w') : Moves A A w w' := ⟨h.size, fun x hx hl => ⟨hx, h.block x hl⟩⟩
theorem Moves.set (sb j : Nat) (w : World) (v : Value) : Moves (fun x => sb < x) (fun x => sb < x) w (w.setCell ⟨sb, j, none⟩ v) :=
  ⟨by simp [World.setCell], fun x hx _ => ⟨hx, Below.heap_setCell _ _ _ _ (by show x ≠ sb; omega)⟩⟩
theorem Moves.trans {A A' A'' : Nat → Prop} {w w1 w2 : World} (h : Moves A A' w w1) (h2 : Moves A' A'' w1 w2) : Moves A A'' w w2 :=
  ⟨Nat.le_trans h.1 h2.1, fun x hx hl => by
    have h3 := h.2 x hx hl
    have h4 := h2.2 x h3.1 (Nat.lt_of_lt_of_le hl h.1)
    exact ⟨h4.1, h4.2.trans h3.2⟩⟩

/-- Titles that lie in blocks of a kind. -/
def TRow (A : Nat → Prop) (w : World) (a : Option Addr) (l : List Tl) : Prop := ∀ (i : Nat) (x : Tl), l[i]? = some x → ∃ g, a = some ⟨g, 0, none⟩ ∧ A g ∧ g < w.heap.size ∧ ∀ j u, (three x)[j]? = some u → w.cell? ⟨g, i * 3 + j, none⟩ = some u
theorem TRow.move {A A' : Nat → Prop} {w w' : World} {a : Option Addr} {l : List Tl} (h : TRow A w a l) (hp : Moves A A' w w') : TRow A' w' a l := by
  intro i x hi
  obtain ⟨g, h1, h2, h3, h4⟩ := h i x hi
  exact ⟨g, h1, (hp.2 g h2 h3).1, Nat.lt_of_lt_of_le h3 hp.1, fun j u hu => (World.cell?_of_block (a := ⟨g, i * 3 + j, none⟩) (hp.2 g h2 h3).2).trans (h4 j u hu)⟩
theorem tlCells_get (l : List Tl) (i j : Nat) (x : Tl) (h : l[i]? = some x) (hj : j < 3) : (tlCells l)[3 * i + j]? = (three x)[j]? := by
  induction l generalizing i with
  | nil => simp at h
  | cons q r ih =>
    have hl : (three q).length = 3 := rfl
    cases i with
    | zero =>
      simp at h; subst h
      show (three q ++ tlCells r)[3 * 0 + j]? = _
      rw [List.getElem?_append_left (by rw [hl]; omega)]; simp
    | succ i =>
      have := ih i (by simpa using h)
      show (three q ++ tlCells r)[3 * (i + 1) + j]? = _
      rw [List.getElem?_append_right (by rw [hl]; omega), hl, ← this]; congr 1; omega
theorem OwnsT.row {B : Nat} {a : Option Addr} {cp : Nat} {l : List Tl} {w : World} (h : OwnsT B a cp l w) {A : Nat → Prop} (hA : ∀ g, B ≤ g → A g) : TRow A w a l := by
  intro i x hi
  rcases h.2 with ⟨_, h2⟩ | ⟨g, cap, cur, h1, h2, _⟩
  · have := (List.getElem?_eq_some_iff.1 hi).1; omega
  · injection h1 with e1 e2 e3
    subst e1
    have hc : ∀ j u, (three x)[j]? = some u → w.cell? ⟨g, i * 3 + j, none⟩ = some u := by
      intro j u hu
      have hj : j < 3 := by have := (List.getElem?_eq_some_iff.1 hu).1; simpa [three] using this
      have hx := tlCells_get l i j x hi hj
      rw [hu] at hx
      have := h.cells (g := g) rfl (3 * i + j) u hx
      have ha : (⟨g, 0, none⟩ : Addr).add (3 * i + j) = ⟨g, i * 3 + j, none⟩ := by
        simp only [Addr.add]; split
        · rename_i h; simp <;> omega
        · simp <;> omega
      rwa [ha] at this
    exact ⟨g, rfl, hA g h2, World.block_lt_of_cell? _ _ (hc 0 _ rfl), hc⟩

def pcCells (l : List Pm) : List Value := (l.map pmCells).flatten
theorem pcCells_snoc (l : List Pm) (x : Pm) : pcCells (l ++ [x]) = pcCells l ++ pmCells x := by simp [pcCells]
theorem pcCells_get (l : List Pm) (i j : Nat) (x : Pm) (h : l[i]? = some x) (hj : j < 6) : (pcCells l)[6 * i + j]? = (pmCells x)[j]? := by
  induction l generalizing i with
  | nil => simp at h
  | cons q r ih =>
    have hl : (pmCells q).length = 6 := rfl
    cases i with
    | zero =>
      simp at h; subst h
      show (pmCells q ++ pcCells r)[6 * 0 + j]? = _
      rw [List.getElem?_append_left (by rw [hl]; omega)]; simp
    | succ i =>
      have := ih i (by simpa using h)
      show (pmCells q ++ pcCells r)[6 * (i + 1) + j]? = _
      rw [List.getElem?_append_right (by rw [hl]; omega), hl, ← this]; congr 1; omega

/-- A piece that is told of a block: its lines, its page, its titles. -/
def PcOf (A : Nat → Prop) (w : World) (p : Pm) (t : S.Blk) : Prop := Own t (dat p.ss) ∧ p.at_ = t.line ∧ p.page = S.B (blkHt contH false t) ∧ (∃ a cp, p.tv = .slice a (titB 0 (t.put 0)).length cp ∧ TRow A w a (titB 0 (t.put 0))) ∧ A p.lb ∧ p.lb < w.heap.size ∧ RowS w p.lb p.lo p.ss ∧ p.ss.length ≤ 1000000
theorem RowS.move {A A' : Nat → Prop} {w w' : World} {b o : Nat} {ss : List ByteArray} (h : RowS w b o ss) (hp : Moves A A' w w') (h1 : A b) (h2 : b < w.heap.size) : RowS w' b o ss :=
  ⟨fun i s hi => (World.cell?_of_block (a := ⟨b, o + i, none⟩) (hp.2 b h1 h2).2).trans (h.1 i s hi), h.2⟩
theorem PcOf.move {A A' : Nat → Prop} {w w' : World} {p : Pm} {t : S.Blk} (h : PcOf A w p t) (hp : Moves A A' w w') : PcOf A' w' p t := by
  obtain ⟨h1, h2, h3, ⟨a, cp, h4, h5⟩, h6, h7, h8, h9⟩ := h
  exact ⟨h1, h2, h3, ⟨a, cp, h4, h5.move hp⟩, (hp.2 _ h6 h7).1, Nat.lt_of_lt_of_le h7 hp.1, h8.move hp h6 h7, h9⟩
/-- Pieces that lie in a block of a kind. -/
def PcAt (A : Nat → Prop) (w : World) (a : Option Addr) (ps : List Pm) : Prop := ∀ (i : Nat) (p : Pm), ps[i]? = some p → ∃ g, a = some ⟨g, 0, none⟩ ∧ A g ∧ g < w.heap.size ∧ ∀ j u, (pmCells p)[j]? = some u → w.cell? ⟨g, i * 6 + j, none⟩ = some u
theorem PcAt.move {A A' : Nat → Prop} {w w' : World} {a : Option Addr} {ps : List Pm} (h : PcAt A w a ps) (hp : Moves A A' w w') : PcAt A' w' a ps := by
  intro i x hi
  obtain ⟨g, h1, h2, h3, h4⟩ := h i x hi
  exact ⟨g, h1, (hp.2 g h2 h3).1, Nat.lt_of_lt_of_le h3 hp.1, fun j u hu => (World.cell?_of_block (a := ⟨g, i * 6 + j, none⟩) (hp.2 g h2 h3).2).trans (h4 j u hu)⟩
theorem pcAt_of {B : Nat} {a : Option Addr} {cp : Nat} {l : List Pm} {w : World} (h : w.ownsRow B 101 6 (.slice a l.length cp) l.length (pcCells l)) {A : Nat → Prop} (hA : ∀ g, B ≤ g → A g) : PcAt A w a l := by
  intro i x hi
  rcases h.2 with ⟨_, h2⟩ | ⟨g, cap, cur, h1, h2, _⟩
  · have := (List.getElem?_eq_some_iff.1 hi).1; omega
  · injection h1 with e1 e2 e3
    subst e1
    have hc : ∀ j u, (pmCells x)[j]? = some u → w.cell? ⟨g, i * 6 + j, none⟩ = some u := by
      intro j u hu
      have hj : j < 6 := by have := (List.getElem?_eq_some_iff.1 hu).1; simpa [pmCells] using this
      have hx := pcCells_get l i j x hi hj
      rw [hu] at hx
      have := h.cells (g := g) rfl (6 * i + j) u hx
      have ha : (⟨g, 0, none⟩ : Addr).add (6 * i + j) = ⟨g, i * 6 + j, none⟩ := by
        simp only [Addr.add]; split
        · rename_i h; simp <;> omega
        · simp <;> omega
      rwa [ha] at this
    exact ⟨g, rfl, hA g h2, World.block_lt_of_cell? _ _ (hc 0 _ rfl), hc⟩
theorem PcAt.row {A : Nat → Prop} {w : World} {a : Option Addr} {ps : List Pm} (h : PcAt A w a ps) (ho : ∀ (i : Nat) (p : Pm), ps[i]? = some p → ∃ t, PcOf A w p t) : PcRow w a ps := by
  intro i p hi
  obtain ⟨g, h1, _, h3, h4⟩ := h i p hi
  obtain ⟨t, _, _, _, _, _, h5, h6, h7⟩ := ho i p hi
  exact ⟨g, h1, h3, h4, h5, h6, h7⟩
/-- The blocks of a text. -/
def blksOf (s : ByteArray) : List S.Blk := (S.readRow (s.size + 1) (S.lines s.data.toList)).1
/-- A sheet with a text. -/
def SheetIn (sb : Nat) (w : World) (s : ByteArray) : Prop := s.size ≤ 1500 ∧ ∃ (a : Option Addr) (cp : Nat) (ps : List Pm), w.heap[sb]? = some (.cells #[.string s, .slice a ps.length cp] 94 (0, 0)) ∧ ps.length = (blksOf s).length ∧ PcAt (fun x => sb < x) w a ps ∧ ∀ (i : Nat) (p : Pm) (t : S.Blk), ps[i]? = some p → (blksOf s)[i]? = some t → PcOf (fun x => sb < x) w p t
theorem SheetIn.lt {sb : Nat} {w : World} {s : ByteArray} (h : SheetIn sb w s) : sb < w.heap.size := by
  obtain ⟨h0, a, cp, ps, h1, h2, h3, h4⟩ := h
  exact (Array.getElem?_eq_some_iff.1 h1).1
theorem SheetIn.below {sb : Nat} {w w' : World} {s : ByteArray} (h : SheetIn sb w s) (hb : Below w.heap.size w w') : SheetIn sb w' s := by
  have hlt := h.lt
  obtain ⟨h0, a, cp, ps, h1, h2, h3, h4⟩ := h
  exact ⟨h0, a, cp, ps, (hb.block sb hlt).trans h1, h2, h3.move (.of hb), fun i p t hp ht => (h4 i p t hp ht).move (.of hb)⟩
theorem blks_len (s : ByteArray) (hs : s.size ≤ 1500) : (blksOf s).length ≤ 20000 := by
  have h2 := S.lines_tt s.data.toList
  rw [S.length_data] at h2
  have h1 := readRow_well (s.size + 1) (S.lines s.data.toList) (by omega)
  have h3 := pgL_len (blksOf s)
  have h4 := h1.2.1
  unfold blksOf at h3 ⊢
  omega
/-- Pieces of blocks are laid behind a list. -/
def SetRel (sb : Nat) (w1 : World) (ts : List S.Blk) (j : Nat) (a : Option Addr) (n cp : Nat) (wr : World) : Prop :=
  ∃ qs : List Pm, n = qs.length ∧ qs.length = j ∧ wr.ownsRow w1.heap.size 101 6 (.slice a n cp) n (pcCells qs) ∧ Below w1.heap.size w1 wr ∧ ∀ (i : Nat) (q : Pm) (t : S.Blk), qs[i]? = some q → ts[i]? = some t → PcOf (fun x => sb < x ∧ (Value.slice a n cp).ownBlock ≠ some x) wr q t
end Go.Proofs.YtlojgpkajkedeaaGreatDoor
/- A sheet's text is set. -/
namespace Go.Proofs.YtlojgpkajkedeaaGreatDoor
open Go.RowKit

theorem Tryz.infoPiece : (Tryz.prog.info? 101).map (fun i => (i.zero, i.size, i.bytes)) = some (some (.agg #[.slice none 0 0, .int .u64 0, .int .u64 0, .int .i64 0, .string ⟨#[]⟩, .slice none 0 0]), 6, 88) := by kernel_rfl
theorem lines_bytes (l : List UInt8) : bytes (S.lines l) ≤ l.length := by
  unfold S.lines; split
  · simp [bytes]
  · have h1 := nl_bytes (Lib.trimSuffix l [10])
    have h2 := Lib.trimSuffix_le l [10]
    omega
/-- A block's cells. -/
def blk8 (t : S.Blk) (la : Option Addr) (ln lc : Nat) (ka : Option Addr) (kn kc : Nat) : List Value := [.int .i64 t.kind, .int .i64 t.line, .slice la ln lc, .int .i64 t.n, .string (S.B t.info), .string (S.B t.text), .bool t.loose, .slice ka kn kc]
theorem blk_at {s : ByteArray} {w w1 : World} {ka : Option Addr} {kn kc : Nat} (h : ReadIn s w w1 (.slice ka kn kc)) : kn = (blksOf s).length ∧ ∀ (j : Nat) (t : S.Blk), (blksOf s)[j]? = some t → ∃ (g b k lc : Nat) (qss : List ByteArray) (a2 : Option Addr) (n2 cp2 : Nat), ka = some ⟨g, 0, none⟩ ∧ w.heap.size ≤ g ∧ g < w1.heap.size ∧ Rep w1 (fun x => w.heap.size ≤ x ∧ x < w1.heap.size) (.slice a2 n2 cp2) t.kids ∧ (∀ i u, (blk8 t (some ⟨b, k, none⟩) qss.length lc a2 n2 cp2)[i]? = some u → w1.cell? ⟨g, j * 8 + i, none⟩ = some u) ∧ Own t (dat qss) ∧ RowS w1 b k qss ∧ w.heap.size ≤ b ∧ b < w1.heap.size ∧ qss.length ≤ 1000000 := by
  obtain ⟨hrep, hb, b, cap, ss, hdat, hsl, hrs, hli⟩ := h
  obtain ⟨hkn, hview⟩ := rep_view hrep
  refine ⟨hkn, fun j t ht => ?_⟩
  obtain ⟨g, o, la, lz, lc, kv, hka, hg, hrk, c0, c1, c2, c3, c4, c5, c6, c7⟩ := hview j t ht
  obtain ⟨a2, n2, cp2, rfl⟩ := hrk.form
  obtain ⟨k, g', n', c', hv, hk, htk, hcl⟩ := hli j t (by rw [hdat]; exact ht)
  injection hv with e1 e2 e3
  rw [hka] at e1
  injection e1 with e1
  injection e1 with e4 e5
  subst e4 e5
  rw [Nat.zero_add] at c0 c1 c2 c3 c4 c5 c6 c7 hcl
  have hne : ss ≠ [] := by intro e; subst e; simp at hk
  obtain ⟨hb0, hb1, hrw⟩ := hrs hne
  obtain ⟨z, hz⟩ : ∃ z, (S.readBlock (S.readRow s.size) ((dat ss).drop k)).2 = z := ⟨_, rfl⟩
  have hzl : z ≤ ss.length - k := by
    cases hd : (dat ss).drop k with
    | nil => have := congrArg List.length hd; rw [List.length_drop, dat_length] at this; simp at this; omega
    | cons x r =>
      have h1 := (S.readBlock_size (S.readRow s.size) x r).2
      have h2 := congrArg List.length hd
      rw [List.length_drop, dat_length] at h2
      rw [← hz, hd]; omega
  have hql : ((ss.drop k).take z).length = z := by rw [List.length_take, List.length_drop]; omega
  have hqd : dat ((ss.drop k).take z) = ((dat ss).drop k).take z := by simp [dat, List.map_take, List.map_drop]
  have hbt : bytes (dat ss) ≤ s.size := by rw [hdat]; have := lines_bytes s.data.toList; rw [S.length_data] at this; exact this
  have hown := ownL_of s.size k (dat ss) (by rw [dat_length]; exact hk) hbt t htk
  rw [hz] at hown hcl
  have hrd := (hrw.drop k).take z
  rw [Nat.zero_add] at hrd
  refine ⟨g, b, k, cap - k, (ss.drop k).take z, a2, n2, cp2, hka, hg.1, hg.2, hrk, ?_, by rw [hqd]; exact hown, hrd, hb0, hb1, by rw [hql]; omega⟩
  rw [hql]
  intro i u hu
  match i, hu with
  | 0, hu => simp [blk8] at hu; subst hu; exact c0
  | 1, hu => simp [blk8] at hu; subst hu; exact c1
  | 2, hu => simp [blk8] at hu; subst hu; exact hcl
  | 3, hu => simp [blk8] at hu; subst hu; exact c3
  | 4, hu => simp [blk8] at hu; subst hu; exact c4
  | 5, hu => simp [blk8] at hu; subst hu; exact c5
  | 6, hu => simp [blk8] at hu; subst hu; exact c6
  | 7, hu => simp [blk8] at hu; subst hu; exact c7
  | n + 8, hu => simp [blk8] at hu
theorem set_step {sb : Nat} {w1 wr wm w3 : World} {ts : List S.Blk} {qs : List Pm} {a : Option Addr} {cp : Nat} {ob : Obj} {q : Pm} {t : S.Blk} {g cap1 : Nat} {ws : World} (hws : ws = wm.alloc ob ∨ ws = (wm.alloc ob).drew)
    (hown : wr.ownsRow w1.heap.size 101 6 (.slice a qs.length cp) qs.length (pcCells qs)) (hbel : Below w1.heap.size w1 wr)
    (hall : ∀ (i : Nat) (q : Pm) (t : S.Blk), qs[i]? = some q → ts[i]? = some t → PcOf (fun x => sb < x ∧ (Value.slice a qs.length cp).ownBlock ≠ some x) wr q t)
    (hm : Below wr.heap.size wr wm) (ht : ts[qs.length]? = some t) (hq : PcOf (fun x => sb < x ∧ (Value.slice a qs.length cp).ownBlock ≠ some x) wm q t)
    (ho3 : w3.ownsRow w1.heap.size 101 6 (.slice (some ⟨g, 0, none⟩) (qs.length + 1) cap1) (qs.length + 1) (pcCells qs ++ pmCells q))
    (hg3 : ws.grownBy w3 (Value.slice a qs.length cp).ownBlock)
    (hat : (Value.slice a qs.length cp).ownBlock = some g ∨ g = wm.heap.size + 1) : SetRel sb w1 ts (qs.length + 1) (some ⟨g, 0, none⟩) (qs.length + 1) cap1 w3 := by
  have hsz := hg3.size
  have hb1 := hbel.trans (hm.mono hbel.size)
  have hbs : Below w1.heap.size w1 ws := by
    rcases hws with rfl | rfl
    · exact hb1.alloc hb1.size ob
    · exact (hb1.alloc hb1.size ob).drew
  have hsa : ws.heap.size = wm.heap.size + 1 := by rcases hws with rfl | rfl <;> simp
  have hsk : ∀ x, x < wm.heap.size → ws.heap[x]? = wm.heap[x]? := fun x hl => by
    rcases hws with rfl | rfl
    · exact Below.heap_alloc _ _ _ hl
    · exact Below.heap_alloc _ _ _ hl
  have hmv : Moves (fun x => sb < x ∧ (Value.slice a qs.length cp).ownBlock ≠ some x) (fun x => sb < x ∧ (Value.slice (some ⟨g, 0, none⟩) (qs.length + 1) cap1).ownBlock ≠ some x) wm w3 := by
    refine ⟨by omega, fun x hx hl => ⟨⟨hx.1, ?_⟩, ?_⟩⟩
    · intro e
      have e2 : g = x := by simpa [Value.ownBlock] using e
      subst e2
      rcases hat with h | h
      · exact hx.2 h
      · omega
    · exact (hg3.block x (by omega) (fun e => hx.2 e.symm)).trans (hsk x hl)
  refine ⟨qs ++ [q], by simp, by simp, by rw [pcCells_snoc]; exact ho3, ?_, ?_⟩
  · exact Below.grown hbs hg3 (by have := hb1.size; omega) (fun k hk => (hown.lt k hk).1)
  · intro i p t' hp ht'
    by_cases hi : i < qs.length
    · rw [List.getElem?_append_left hi] at hp
      exact ((hall i p t' hp ht').move (.of hm)).move hmv
    · rw [List.getElem?_append_right (by omega)] at hp
      have hi0 : i - qs.length = 0 := by have := (List.getElem?_eq_some_iff.1 hp).1; simp at this; omega
      rw [hi0] at hp
      simp at hp
      subst hp
      have hie : i = qs.length := by omega
      subst hie
      rw [ht] at ht'
      injection ht' with ht'
      subst ht'
      exact hq.move hmv
/-- A piece that is not yet told. -/
def MidP (W2 : World) (pb : Nat) (cs : List Value) (wx : World) : Prop := W2.heap.size ≤ pb ∧ Below W2.heap.size W2 wx ∧ wx.heap[pb]? = some (.cells cs.toArray 101 (0, 0))
theorem midA {W2 w0 w3 : World} {cs : List Value} (h0 : Below W2.heap.size W2 w0) (h3 : Below w0.heap.size w0 w3) : MidP W2 w3.heap.size cs (w3.alloc (.cells cs.toArray 101)) := by
  have h1 := h0.size
  have h2 := h3.size
  exact ⟨by omega, (h0.trans (h3.mono h1)).alloc (by omega) _, alloc_new _ _⟩
theorem midB {W2 w0 w3 : World} {v0 v1 v2 v3 v4 v5 : Value} (h0 : Below W2.heap.size W2 w0) (hz : w0.heap.size = W2.heap.size + 1) (hx : ∃ cs : List Value, cs.length = 6 ∧ w0.heap[W2.heap.size]? = some (.cells cs.toArray 101 (0, 0))) (h3 : Below w0.heap.size w0 w3) :
    MidP W2 W2.heap.size [v0, v1, v2, v3, v4, v5] ((((((w3.setCell ⟨W2.heap.size, 0, none⟩ v0).setCell ⟨W2.heap.size, 1, none⟩ v1).setCell ⟨W2.heap.size, 2, none⟩ v2).setCell ⟨W2.heap.size, 3, none⟩ v3).setCell ⟨W2.heap.size, 4, none⟩ v4).setCell ⟨W2.heap.size, 5, none⟩ v5) := by
  obtain ⟨cs, hl, hx⟩ := hx
  have h1 := h0.size
  have hx3 := (h3.block W2.heap.size (by omega)).trans hx
  refine ⟨Nat.le_refl _, ?_, ?_⟩
  · exact ((((((h0.trans (h3.mono h1)).setCell (p := ⟨W2.heap.size, 0, none⟩) (Nat.le_refl _) _).setCell (p := ⟨W2.heap.size, 1, none⟩) (Nat.le_refl _) _).setCell (p := ⟨W2.heap.size, 2, none⟩) (Nat.le_refl _) _).setCell (p := ⟨W2.heap.size, 3, none⟩) (Nat.le_refl _) _).setCell (p := ⟨W2.heap.size, 4, none⟩) (Nat.le_refl _) _).setCell (p := ⟨W2.heap.size, 5, none⟩) (Nat.le_refl _) _
  · match cs, hl with
    | [c0, c1, c2, c3, c4, c5], _ => exact set_blk (set_blk (set_blk (set_blk (set_blk (set_blk hx3 0 v0) 1 v1) 2 v2) 3 v3) 4 v4) 5 v5
theorem shwrite (B b : Nat) (l : List UInt8) (s : ByteArray) (w : World) (h : Lib.IsBuilderF 104 5 B b (Lib.byteCells l) w) (hlen : l.length + s.size ≤ 1000000000) (hBw : B ≤ w.heap.size) :
    Calls Tryz.prog 60 #[.pointer (some ⟨b, 0, none⟩), .string s] w fun e w' => e = .returned (.tuple #[.int .i64 s.size, .nilIface]) ∧ Lib.IsBuilderF 104 5 B b (Lib.byteCells (l ++ s.data.toList)) w' ∧ Below B w w' := by
  refine (Tryz.writeStringB B b (Lib.byteCells l) s w h (by rw [Lib.byteCells_length]; omega) hBw).mono ?_
  rintro e w' ⟨rfl, h1, h2, _⟩
  rw [Lib.strCells_eq, ← Lib.byteCells_append] at h1
  exact ⟨rfl, .inr h1, h2⟩

end Go.Proofs.YtlojgpkajkedeaaGreatDoor
