import Derived.Test.YtlojgpkajkedeaaGreatDoorW16
import Derived.Test.YtlojgpkajkedeaaGreatDoorStr5
import Derived.Test.YtlojgpkajkedeaaGreatDoorStr
import Derived.Test.YtlojgpkajkedeaaGreatDoorE29
import Derived.Test.YtlojgpkajkedeaaGreatDoorC7
import Derived.Test.YtlojgpkajkedeaaGreatDoorC9
import Derived.RegionTactic
/- What is read of a row hangs on no depth; a text with marks of a quote ahead of its lines. -/
namespace Go.Proofs.YtlojgpkajkedeaaGreatDoor
open Go.RowKit
namespace S

theorem listFrom_congr (sub sub' : List (List UInt8) → List Blk × Bool) (kind : UInt8) (N Z : Nat) (h : ∀ x, bytes x < N → sub x = sub' x) (f : Nat) (l : List UInt8) (r : List (List UInt8)) (hok : (item l).ok = true) (hN : bytes (l :: r) ≤ N) :
    listFrom sub kind Z f (item l) (l :: r) = listFrom sub' kind Z f (item l) (l :: r) := by
  induction f generalizing l r with
  | zero => rfl
  | succ f ih =>
    rw [listFrom_succ, listFrom_succ, h _ (Nat.lt_of_lt_of_le (itemRow_lt l r hok) hN)]
    obtain ⟨k, hk⟩ : ∃ k, (itemRow (item l) (l :: r)).length + countBlank ((l :: r).drop (itemRow (item l) (l :: r)).length) = k := ⟨_, rfl⟩
    rw [hk]
    by_cases hn : (nextItem kind ((l :: r).drop k)).ok = true
    · cases hd : (l :: r).drop k with
      | nil => rw [hd] at hn; simp [nextItem] at hn
      | cons l2 r2 =>
        rw [hd] at hn
        have hy := nextItem_yes kind l2 r2 hn
        have hb := bytes_drop (l :: r) k
        rw [hd] at hb
        rw [hy.1, ih l2 r2 hy.2.2 (by omega)]
    · rw [if_neg hn, if_neg hn]
theorem readBlock_congr (sub sub' : List (List UInt8) → List Blk × Bool) (N : Nat) (h : ∀ x, bytes x < N → sub x = sub' x) (row : List (List UInt8)) (hN : bytes row ≤ N) : readBlock sub row = readBlock sub' row := by
  cases row with
  | nil => rfl
  | cons x r =>
    unfold readBlock
    dsimp only
    by_cases h1 : 4 ≤ indent x
    · rw [if_pos h1, if_pos h1]
    rw [if_neg h1, if_neg h1]
    by_cases h2 : isRule x = true
    · rw [if_pos h2, if_pos h2]
    rw [if_neg h2, if_neg h2]
    by_cases h3 : 0 < titleLevel x
    · rw [if_pos h3, if_pos h3]
    rw [if_neg h3, if_neg h3]
    by_cases h4 : (fence x).ok = true
    · rw [if_pos h4, if_pos h4]
    rw [if_neg h4, if_neg h4]
    by_cases h5 : isQuoted x = true
    · rw [if_pos h5, if_pos h5, h _ (Nat.lt_of_lt_of_le (quoteRow_lt x r h5) hN)]
    rw [if_neg h5, if_neg h5]
    by_cases h6 : (item x).ok = true
    · rw [if_pos h6, if_pos h6, readList_eq, readList_eq, listFrom_congr sub sub' _ N _ h _ x r h6 hN]
    rw [if_neg h6, if_neg h6]
theorem rowFrom_congr (sub sub' : List (List UInt8) → List Blk × Bool) (N Z : Nat) (h : ∀ x, bytes x < N → sub x = sub' x) (f : Nat) (row : List (List UInt8)) (hN : bytes row ≤ N) : rowFrom sub Z f row = rowFrom sub' Z f row := by
  induction f generalizing row with
  | zero => rfl
  | succ f ih =>
    by_cases hr : row = []
    · subst hr; rw [rowFrom_nil, rowFrom_nil]
    · rw [rowFrom_step _ _ _ _ hr, rowFrom_step _ _ _ _ hr, readBlock_congr sub sub' N h row hN]
      rw [ih _ (Nat.le_trans (bytes_drop _ _) hN)]
/-- Two depths above the bytes give one answer. -/
theorem readRow_fuel (d d' : Nat) (row : List (List UInt8)) (h : bytes row < d) (h' : bytes row < d') : readRow d row = readRow d' row := by
  induction d generalizing d' row with
  | zero => omega
  | succ e ih =>
    obtain ⟨e', rfl⟩ : ∃ e', d' = e' + 1 := ⟨d' - 1, by omega⟩
    unfold readRow
    exact rowFrom_congr (readRow e) (readRow e') (bytes row) _ (fun x hx => ih e' x (by omega) (by omega)) _ _ (bytes_drop _ _)

/-- A line with the mark of a quote ahead. -/
def quoted (p : List UInt8) : List UInt8 := 62 :: 32 :: p
theorem indent_quoted (p : List UInt8) : indent (quoted p) = 0 := rfl
theorem shallow_quoted (p : List UInt8) : shallow (quoted p) = quoted p := by
  rw [shallow_flat _ (by rw [indent_quoted]; omega), indent_quoted]; rfl
theorem isQuoted_quoted (p : List UInt8) : isQuoted (quoted p) = true := by
  unfold isQuoted; rw [shallow_quoted]; simp [quoted, Lib.hasPrefix]
theorem unquoted_quoted (p : List UInt8) : unquoted (quoted p) = p := by
  unfold unquoted; rw [shallow_quoted]; simp [quoted, Lib.trimPrefix, Lib.hasPrefix]
theorem quoteRow_map (L : List (List UInt8)) : quoteRow (L.map quoted) = L := by
  induction L with
  | nil => rfl
  | cons p r ih => simp only [List.map_cons, quoteRow, isQuoted_quoted, if_pos, unquoted_quoted, ih]
theorem blank_quoted (p : List UInt8) : blank (quoted p) = false := by
  unfold blank; rw [indent_quoted]; simp [quoted]
theorem block_Q (sub : List (List UInt8) → List Blk × Bool) (p : List UInt8) (L : List (List UInt8)) :
    readBlock sub ((p :: L).map quoted) = (.mk 5 0 [] [] false (sub (p :: L)).1, (p :: L).length) := by
  have h1 : ¬ 4 ≤ indent (quoted p) := by rw [indent_quoted]; omega
  have hs := shallow_quoted p
  have h2 : isRule (quoted p) = false := isRule_no _ 62 (32 :: p) (by rw [hs]; rfl) (by decide)
  have h3 : titleLevel (quoted p) = 0 := by
    unfold titleLevel; rw [hs]; simp [quoted, cnt]
  have h4 : (fence (quoted p)).ok = false := by rw [fence_no _ 62 (32 :: p) (by rw [hs]; rfl) (by decide) (by decide)]
  have h5 := quoteRow_map (p :: L)
  rw [List.map_cons] at h5 ⊢
  unfold readBlock
  dsimp only
  rw [if_neg h1, if_neg (by rw [h2]; simp), h3, if_neg (by omega), if_neg (by rw [h4]; simp), if_pos (isQuoted_quoted p), h5]
theorem quoted_row (d : Nat) (p : List UInt8) (L : List (List UInt8)) : readRow (d + 1) ((p :: L).map quoted) = ([.mk 5 0 [] [] false (readRow d (p :: L)).1], false) := by
  have hb : countBlank ((p :: L).map quoted) = 0 := by
    simp only [List.map_cons, countBlank, blank_quoted]; rfl
  have hd : ((p :: L).map quoted).drop (p :: L).length = [] := List.drop_eq_nil_of_le (by simp)
  rw [show readRow (d + 1) ((p :: L).map quoted) = rowFrom (readRow d) ((p :: L).map quoted).length ((p :: L).map quoted).length (((p :: L).map quoted).drop (countBlank ((p :: L).map quoted))) from rfl, hb, List.drop_zero, List.length_map, List.length_cons, rowFrom_step _ _ _ _ (by simp), block_Q]
  dsimp only
  rw [hd, show countBlank [] = 0 from rfl, show (p :: L).length + 0 = (p :: L).length from rfl, hd, rowFrom_nil, show (L.length + 1 - ((p :: L).map quoted).length : Nat) = 0 by simp]
  rfl
/-- The text that the statement makes of lines. -/
def quotedOf (L : List (List UInt8)) : List UInt8 := (L.map (fun p => 62 :: 32 :: p ++ [10])).flatten
theorem quotedOf_eq (L : List (List UInt8)) : quotedOf L = ((L.map quoted).map (fun p => p ++ [10])).flatten := by
  unfold quotedOf; rw [List.map_map]; rfl
theorem lines_flat (L : List (List UInt8)) (h : ∀ p ∈ L, 10 ∉ p) (hne : L ≠ []) : lines ((L.map (fun p => p ++ [10])).flatten) = L := by
  obtain ⟨M, q, rfl⟩ : ∃ M q, L = M ++ [q] := ⟨L.dropLast, L.getLast hne, (List.dropLast_concat_getLast hne).symm⟩
  have e : ((M ++ [q]).map (fun p => p ++ [10])).flatten = ((M.map (fun p => p ++ [10])).flatten ++ q) ++ [10] := by simp
  have hn : ((M ++ [q]).map (fun p => p ++ [10])).flatten ≠ [] := by rw [e]; simp
  have ht : Lib.trimSuffix (((M ++ [q]).map (fun p => p ++ [10])).flatten) [10] = (M.map (fun p => p ++ [10])).flatten ++ q := by
    rw [e]; unfold Lib.trimSuffix Lib.hasSuffix
    rw [if_pos (by rw [List.isSuffixOf_iff_suffix]; exact ⟨_, rfl⟩), List.length_append, List.length_singleton, Nat.add_sub_cancel, List.take_left' rfl]
  unfold lines
  rw [if_neg hn, ht, nl_lines M q (fun p hp => h p (by simp [hp])), nl_none q (List.count_eq_zero.2 (h q (by simp)))]
theorem quoted_lines (L : List (List UInt8)) (h : ∀ p ∈ L, 10 ∉ p) (hne : L ≠ []) : lines (quotedOf L) = L.map quoted := by
  rw [quotedOf_eq]
  refine lines_flat _ ?_ (by simpa using hne)
  intro p hp
  obtain ⟨q, hq, rfl⟩ := List.mem_map.1 hp
  have := h q hq
  simp [quoted, this]
theorem bytes_lines (l : List UInt8) : bytes (lines l) ≤ l.length := by
  unfold lines
  split
  · simp [bytes]
  · have h1 : ∀ l : List UInt8, bytes (nl l) ≤ l.length := by
      intro l
      induction l with
      | nil => simp [nl, bytes]
      | cons c r ih =>
        unfold nl
        split
        · simp only [bytes, List.map_cons, List.sum_cons, List.length_nil, List.length_cons] at *; omega
        · split <;> simp_all [bytes] <;> omega
    obtain ⟨t, ht⟩ := trimSuffix_pre l
    have h2 := congrArg List.length ht
    rw [List.length_append] at h2
    have := h1 (Lib.trimSuffix l [10])
    omega
/-- A text with the mark of a quote ahead of each line is a quote of what it was. -/
theorem quoted_all (d d' : Nat) (l : List UInt8) (hne : lines l ≠ []) (h1 : l.length < d) (h2 : l.length < d') :
    readRow (d' + 1) (lines (quotedOf (lines l))) = ([.mk 5 0 [] [] false (readRow d (lines l)).1], false) := by
  rw [quoted_lines _ (lines_no l) hne]
  have hb := bytes_lines l
  cases hL : lines l with
  | nil => exact absurd hL hne
  | cons p r =>
    rw [quoted_row, readRow_fuel d' d (p :: r) (by rw [← hL]; omega) (by rw [← hL]; omega)]
end S
end Go.Proofs.YtlojgpkajkedeaaGreatDoor
/- How many nodes a text has, how deep they lie: plain. -/
namespace Go.Proofs.YtlojgpkajkedeaaGreatDoor
open Go.RowKit
namespace S

/-- Bytes and lines of a row. -/
def tt (r : List (List UInt8)) : Nat := bytes r + r.length
theorem tt_nil : tt [] = 0 := rfl
theorem tt_cons (x : List UInt8) (r : List (List UInt8)) : tt (x :: r) = x.length + 1 + tt r := by simp only [tt, bytes, List.map_cons, List.sum_cons, List.length_cons]; omega
theorem tt_append (a b : List (List UInt8)) : tt (a ++ b) = tt a + tt b := by
  induction a with
  | nil => simp [tt_nil]
  | cons x r ih => rw [List.cons_append, tt_cons, tt_cons, ih]; omega
theorem tt_split (r : List (List UInt8)) (n : Nat) : tt (r.take n) + tt (r.drop n) = tt r := by rw [← tt_append, List.take_append_drop]
theorem tt_take_le (r : List (List UInt8)) (n : Nat) : tt (r.take n) ≤ tt r := by have := tt_split r n; omega
theorem tt_take_mono (r : List (List UInt8)) (m n : Nat) (h : m ≤ n) : tt (r.take m) ≤ tt (r.take n) := by
  have := tt_take_le (r.take n) m
  rwa [List.take_take, Nat.min_eq_left h] at this
theorem tt_take_add (r : List (List UInt8)) (a b : Nat) : tt (r.take (a + b)) = tt (r.take a) + tt ((r.drop a).take b) := by
  rw [List.take_add, tt_append]
mutual
/-- Blocks, and thrice their contents' bytes. -/
def wtB : Blk → Nat
  | .at_ _ k _ _ t _ kids => 1 + (if k = 1 ∨ k = 2 then 3 * t.length else 0) + wtL kids
def wtL : List Blk → Nat
  | [] => 0
  | b :: r => wtB b + wtL r
end
theorem quote_tt (row : List (List UInt8)) : tt (quoteRow row) ≤ tt (row.take (quoteRow row).length) := by
  induction row with
  | nil => simp [quoteRow]
  | cons x r ih =>
    simp only [quoteRow]
    split
    · rename_i h
      have := unquoted_lt x h
      rw [List.length_cons, List.take_succ_cons, tt_cons, tt_cons]; omega
    · simp [tt_nil]
theorem quote_tt_lt (x : List UInt8) (r : List (List UInt8)) (h : isQuoted x = true) : tt (quoteRow (x :: r)) + 1 ≤ tt ((x :: r).take (quoteRow (x :: r)).length) := by
  have h1 := quote_tt r
  have h2 := unquoted_lt x h
  simp only [quoteRow, if_pos h]
  rw [List.length_cons, List.take_succ_cons, tt_cons, tt_cons]; omega
theorem tt_map_drop (m : Nat) (r : List (List UInt8)) : tt (r.map (fun l => l.drop m)) ≤ tt r := by
  induction r with
  | nil => simp
  | cons x r ih => rw [List.map_cons, tt_cons, tt_cons, List.length_drop]; omega
theorem item_tt (l : List UInt8) (r : List (List UInt8)) (h : (item l).ok = true) : tt (itemRow (item l) (l :: r)) + 1 ≤ tt ((l :: r).take (itemRow (item l) (l :: r)).length) := by
  obtain ⟨h1, h2⟩ := item_ok l h
  unfold itemRow; split
  · rw [List.length_singleton, List.take_succ_cons, List.take_zero, tt_cons, tt_cons, tt_nil]
    simp only [List.length_nil]; omega
  · obtain ⟨n, hn⟩ : ∃ n, countDeep (item l).margin (l :: r) = n + 1 := ⟨countDeep (item l).margin (l :: r) - 1, by have := countDeep_pos (item l).margin (l :: r); omega⟩
    rw [hn, List.take_succ_cons, List.map_cons, List.length_cons, List.length_map, List.take_succ_cons, tt_cons, tt_cons, List.length_drop]
    have h3 := tt_map_drop (item l).margin (r.take n)
    have h4 : r.take (r.take n).length = r.take n := by rw [List.length_take, ← List.take_take, List.take_length]
    rw [h4]; omega
theorem list_wt (sub : List (List UInt8) → List Blk × Bool) (hs : ∀ x, wtL (sub x).1 ≤ 10 * tt x) (kind : UInt8) (Z f : Nat) (l : List UInt8) (r : List (List UInt8)) (hok : (item l).ok = true) :
    wtL (listFrom sub kind Z f (item l) (l :: r)).1 + 9 * min f 1 ≤ 10 * tt ((l :: r).take (listFrom sub kind Z f (item l) (l :: r)).2.2) := by
  induction f generalizing l r with
  | zero => simp [listFrom, wtL]
  | succ f ih =>
    have hi := item_tt l r hok
    have hw := hs (itemRow (item l) (l :: r))
    rw [listFrom_succ]
    obtain ⟨a, ha⟩ : ∃ a, (itemRow (item l) (l :: r)).length = a := ⟨_, rfl⟩
    obtain ⟨g, hg⟩ : ∃ g, countBlank ((l :: r).drop a) = g := ⟨_, rfl⟩
    rw [ha] at hi ⊢
    rw [hg]
    have hm : min (f + 1) 1 = 1 := by omega
    rw [hm]
    by_cases hn : (nextItem kind ((l :: r).drop (a + g))).ok = true
    · rw [if_pos hn]
      cases hd : (l :: r).drop (a + g) with
      | nil => rw [hd] at hn; simp [nextItem] at hn
      | cons l2 r2 =>
        rw [hd] at hn
        have hy := nextItem_yes kind l2 r2 hn
        have := ih l2 r2 hy.2.2
        rw [hy.1]
        have e := tt_take_add (l :: r) (a + g) (listFrom sub kind Z f (item l2) (l2 :: r2)).2.2
        rw [hd] at e
        have e2 := tt_take_mono (l :: r) a (a + g) (by omega)
        show 1 + 0 + wtL (sub (itemRow (item l) (l :: r))).1 + wtL (listFrom sub kind Z f (item l2) (l2 :: r2)).1 + 9 * 1 ≤ 10 * tt ((l :: r).take (a + g + (listFrom sub kind Z f (item l2) (l2 :: r2)).2.2))
        rw [e]; omega
    · rw [if_neg hn]
      show 1 + 0 + wtL (sub (itemRow (item l) (l :: r))).1 + 0 + 9 * 1 ≤ 10 * tt ((l :: r).take a)
      omega
theorem joinLines_tt (r : List (List UInt8)) : (joinLines r).length ≤ tt r := by
  induction r with
  | nil => simp [joinLines]
  | cons x r ih =>
    cases r with
    | nil => rw [tt_cons]; simp only [joinLines, List.length_drop]; omega
    | cons y r => rw [tt_cons]; simp only [joinLines, List.length_append, List.length_drop, List.length_cons] at *; omega
theorem titleContent_le (l : List UInt8) : (titleContent l).length ≤ l.length := by
  have h1 := shallow_le l
  have h2 : (titleOpen l).length ≤ (shallow l).length := by
    unfold titleOpen
    have := trimB_le ((shallow l).drop (cnt 35 (shallow l))) 32
    rw [List.length_drop] at this; omega
  unfold titleContent
  split
  · have h3 := trimRightB_le (titleOpen l) 35
    have h4 := trimRightB_le (Lib.trimRightB (titleOpen l) 35) 32
    omega
  · omega
theorem par_text (row : List (List UInt8)) : (readParagraph row).1.text.length ≤ tt (row.take (readParagraph row).2) ∧ (readParagraph row).1.kids = [] := by
  unfold readParagraph
  dsimp only
  have h1 := trimRightB_le (joinLines (row.take (parSize row.tail + 1))) 32
  have h2 := joinLines_tt (row.take (parSize row.tail + 1))
  split
  · exact ⟨by show (Lib.trimRightB _ _).length ≤ tt (row.take (parSize row.tail + 1)); omega, rfl⟩
  · split
    · have h3 := tt_take_mono row (parSize row.tail + 1) (parSize row.tail + 1 + 1) (by omega)
      exact ⟨by show (Lib.trimRightB _ _).length ≤ tt (row.take (parSize row.tail + 1 + 1)); omega, rfl⟩
    · exact ⟨by show (Lib.trimRightB _ _).length ≤ tt (row.take (parSize row.tail + 1)); omega, rfl⟩
theorem wtB_eq (b : Blk) : wtB b = 1 + (if b.kind = 1 ∨ b.kind = 2 then 3 * b.text.length else 0) + wtL b.kids := by cases b; simp only [wtB]; rfl
theorem wtB_put (z : Int) (b : Blk) : wtB (b.put z) = wtB b := by cases b; simp only [Blk.put, wtB]
theorem wtB_le (b : Blk) : wtB b ≤ 1 + 3 * b.text.length + wtL b.kids := by rw [wtB_eq]; split <;> omega
theorem tt_take_one (x : List UInt8) (r : List (List UInt8)) (n : Nat) (h : 1 ≤ n) : x.length + 1 ≤ tt ((x :: r).take n) := by
  obtain ⟨m, rfl⟩ : ∃ m, n = m + 1 := ⟨n - 1, by omega⟩
  rw [List.take_succ_cons, tt_cons]; omega
theorem block_wt (sub : List (List UInt8) → List Blk × Bool) (hs : ∀ x, wtL (sub x).1 ≤ 10 * tt x) (x : List UInt8) (r : List (List UInt8)) :
    wtB (readBlock sub (x :: r)).1 ≤ 10 * tt ((x :: r).take (readBlock sub (x :: r)).2) := by
  have hz := readBlock_size sub x r
  have h0 := tt_take_one x r _ hz.1
  clear hz
  obtain ⟨v, hv⟩ : ∃ v, readBlock sub (x :: r) = v := ⟨_, rfl⟩
  rw [hv] at h0 ⊢
  unfold readBlock at hv
  dsimp only at hv
  split at hv
  · subst hv
    refine Nat.le_trans (?_ : _ ≤ 1) (by omega)
    show wtB (.mk 3 0 [] _ false []) ≤ 1
    simp [wtB, wtL]
  split at hv
  · subst hv
    refine Nat.le_trans (?_ : _ ≤ 1) (by omega)
    simp [wtB, wtL]
  split at hv
  · subst hv
    have := titleContent_le x
    refine Nat.le_trans (wtB_le _) ?_
    show 1 + 3 * (titleContent x).length + 0 ≤ _
    omega
  split at hv
  · subst hv
    refine Nat.le_trans (?_ : _ ≤ 1) (by omega)
    show wtB (.mk 3 0 _ _ false []) ≤ 1
    simp [wtB, wtL]
  split at hv
  · rename_i h5
    subst hv
    have hq := quote_tt_lt x r h5
    have hw := hs (quoteRow (x :: r))
    show wtB (.mk 5 0 [] [] false (sub (quoteRow (x :: r))).1) ≤ 10 * tt ((x :: r).take (quoteRow (x :: r)).length)
    refine Nat.le_trans (?_ : _ ≤ 1 + wtL (sub (quoteRow (x :: r))).1) (by omega)
    simp [wtB]
  split at hv
  · rename_i h6
    subst hv
    rw [readList_eq]
    have hl := list_wt sub hs (item x).kind (x :: r).length (x :: r).length x r h6
    rw [show min (x :: r).length 1 = 1 by simp] at hl
    show wtB (.mk 6 _ [] [] _ (listFrom sub (item x).kind (x :: r).length (x :: r).length (item x) (x :: r)).1) ≤ 10 * tt ((x :: r).take (listFrom sub (item x).kind (x :: r).length (x :: r).length (item x) (x :: r)).2.2)
    refine Nat.le_trans (?_ : _ ≤ 1 + wtL (listFrom sub (item x).kind (x :: r).length (x :: r).length (item x) (x :: r)).1) (by omega)
    simp [wtB]
  · subst hv
    have hp := par_text (x :: r)
    refine Nat.le_trans (wtB_le _) ?_
    rw [hp.2]
    show 1 + 3 * _ + 0 ≤ _
    omega
theorem rowFrom_wt (sub : List (List UInt8) → List Blk × Bool) (hs : ∀ x, wtL (sub x).1 ≤ 10 * tt x) (Z f : Nat) (row : List (List UInt8)) : wtL (rowFrom sub Z f row).1 ≤ 10 * tt row := by
  induction f generalizing row with
  | zero => simp [rowFrom, wtL]
  | succ f ih =>
    cases row with
    | nil => rw [rowFrom_nil]; simp [wtL]
    | cons x r =>
      rw [rowFrom_step _ _ _ _ (by simp)]
      have h1 := block_wt sub hs x r
      obtain ⟨z, hz⟩ : ∃ z, (readBlock sub (x :: r)).2 = z := ⟨_, rfl⟩
      rw [hz] at h1 ⊢
      have h2 := ih ((x :: r).drop (z + countBlank ((x :: r).drop z)))
      have h3 := tt_split (x :: r) (z + countBlank ((x :: r).drop z))
      have h4 := tt_take_mono (x :: r) z (z + countBlank ((x :: r).drop z)) (by omega)
      show wtB ((readBlock sub (x :: r)).1.put _) + wtL _ ≤ _
      rw [wtB_put]
      omega
theorem readRow_wt (d : Nat) (row : List (List UInt8)) : wtL (readRow d row).1 ≤ 10 * tt row := by
  induction d generalizing row with
  | zero => simp [readRow, wtL]
  | succ d ih =>
    rw [show readRow (d + 1) row = rowFrom (readRow d) row.length row.length (row.drop (countBlank row)) from rfl]
    have h1 := rowFrom_wt (readRow d) ih row.length row.length (row.drop (countBlank row))
    have h2 := tt_split row (countBlank row)
    omega
end S

mutual
theorem flatB_len (d : Nat) : ∀ b : S.Blk, (flatB contN d b).length ≤ S.wtB b
  | .at_ z k n i t lo kids => by
    have h1 := flatL_wt (d + 1) kids
    have h2 := contN_len t (d + 1)
    simp only [flatB, S.wtB, List.length_cons, List.length_append]
    split
    · omega
    · simp only [List.length_nil]; omega
theorem flatL_wt (d : Nat) : ∀ l : List S.Blk, (flatL contN d l).length ≤ S.wtL l
  | [] => by simp [flatL, S.wtL]
  | b :: r => by
    have h1 := flatB_len d b
    have h2 := flatL_wt d r
    simp only [flatL, S.wtL, List.length_append]; omega
end

theorem list_good (sub : List (List UInt8) → List S.Blk × Bool) (d : Nat) (hd : d + 1 ≤ 90000) (hs : ∀ x, S.tt x ≤ 300000 → goodL isC (d + 2) (sub x).1) (kind : UInt8) (Z f : Nat) (l : List UInt8) (r : List (List UInt8)) (hok : (S.item l).ok = true) (ht : S.tt (l :: r) ≤ 300000) :
    goodL isC (d + 1) (S.listFrom sub kind Z f (S.item l) (l :: r)).1 := by
  induction f generalizing l r with
  | zero => simpa [S.listFrom, goodL] using hd
  | succ f ih =>
    have hi := S.item_tt l r hok
    have hi2 := S.tt_take_le (l :: r) (S.itemRow (S.item l) (l :: r)).length
    have hg := hs (S.itemRow (S.item l) (l :: r)) (by omega)
    rw [S.listFrom_succ]
    obtain ⟨k, hk⟩ : ∃ k, (S.itemRow (S.item l) (l :: r)).length + S.countBlank ((l :: r).drop (S.itemRow (S.item l) (l :: r)).length) = k := ⟨_, rfl⟩
    rw [hk]
    by_cases hn : (S.nextItem kind ((l :: r).drop k)).ok = true
    · rw [if_pos hn]
      cases hdr : (l :: r).drop k with
      | nil => rw [hdr] at hn; simp [S.nextItem] at hn
      | cons l2 r2 =>
        rw [hdr] at hn
        have hy := S.nextItem_yes kind l2 r2 hn
        have hsp := S.tt_split (l :: r) k
        rw [hdr] at hsp
        have := ih l2 r2 hy.2.2 (by omega)
        rw [hy.1]
        simp only [goodL, goodB]
        exact ⟨⟨fun h => by omega, hg⟩, this⟩
    · rw [if_neg hn]
      simp only [goodL, goodB]
      exact ⟨⟨fun h => by omega, hg⟩, hd⟩
theorem block_good (sub : List (List UInt8) → List S.Blk × Bool) (d : Nat) (hd : d + 1 ≤ 90000) (hs : ∀ x, S.tt x ≤ 300000 → goodL isC (d + 1) (sub x).1) (hs2 : ∀ x, S.tt x ≤ 300000 → goodL isC (d + 2) (sub x).1) (x : List UInt8) (r : List (List UInt8)) (ht : S.tt (x :: r) ≤ 300000) :
    goodB isC d (S.readBlock sub (x :: r)).1 := by
  have hnil : goodL isC (d + 1) [] := by simpa [goodL] using hd
  unfold S.readBlock
  dsimp only
  split
  · exact ⟨fun h => by have h : (3 : Int) = 1 ∨ (3 : Int) = 2 := h; omega, hnil⟩
  split
  · exact ⟨fun h => by have h : (4 : Int) = 1 ∨ (4 : Int) = 2 := h; omega, hnil⟩
  split
  · refine ⟨fun _ => ?_, hnil⟩
    have h1 := S.titleContent_le x
    rw [S.tt_cons] at ht
    show (S.titleContent x).length ≤ 300000
    omega
  split
  · exact ⟨fun h => by have h : (3 : Int) = 1 ∨ (3 : Int) = 2 := h; omega, hnil⟩
  split
  · have h1 := S.quote_tt (x :: r)
    have h2 := S.tt_take_le (x :: r) (S.quoteRow (x :: r)).length
    exact ⟨fun h => by have h : (5 : Int) = 1 ∨ (5 : Int) = 2 := h; omega, hs _ (by omega)⟩
  split
  · rename_i h6
    rw [S.readList_eq]
    exact ⟨fun h => by have h : (6 : Int) = 1 ∨ (6 : Int) = 2 := h; omega, list_good sub d hd hs2 _ _ _ x r h6 ht⟩
  · have hp := S.par_text (x :: r)
    have h2 := S.tt_take_le (x :: r) (S.readParagraph (x :: r)).2
    obtain ⟨b, hb⟩ : ∃ b, (S.readParagraph (x :: r)).1 = b := ⟨_, rfl⟩
    rw [hb] at hp ⊢
    obtain ⟨z, k, n, i, t, lo, kids⟩ := b
    obtain ⟨hp1, hp2⟩ := hp
    have hp2 : kids = [] := hp2
    subst hp2
    exact ⟨fun _ => by have hp1 : t.length ≤ _ := hp1; show t.length ≤ 300000; omega, hnil⟩
theorem rowFrom_good (sub : List (List UInt8) → List S.Blk × Bool) (d : Nat) (hd : d + 1 ≤ 90000) (hs : ∀ x, S.tt x ≤ 300000 → goodL isC (d + 1) (sub x).1) (hs2 : ∀ x, S.tt x ≤ 300000 → goodL isC (d + 2) (sub x).1) (Z f : Nat) (row : List (List UInt8)) (ht : S.tt row ≤ 300000) : goodL isC d (S.rowFrom sub Z f row).1 := by
  induction f generalizing row with
  | zero => simp only [S.rowFrom, goodL]; omega
  | succ f ih =>
    cases row with
    | nil => rw [S.rowFrom_nil]; simp only [goodL]; omega
    | cons x r =>
      rw [S.rowFrom_step _ _ _ _ (by simp)]
      have h1 := block_good sub d hd hs hs2 x r ht
      have h3 := S.tt_split (x :: r) ((S.readBlock sub (x :: r)).2 + S.countBlank ((x :: r).drop (S.readBlock sub (x :: r)).2))
      have h2 := ih ((x :: r).drop ((S.readBlock sub (x :: r)).2 + S.countBlank ((x :: r).drop (S.readBlock sub (x :: r)).2))) (by omega)
      exact ⟨(goodB_put _ _ _ _).2 h1, h2⟩
theorem readRow_good (e : Nat) (row : List (List UInt8)) (d : Nat) (hd : d + 2 * e ≤ 80000) (ht : S.tt row ≤ 300000) : goodL isC d (S.readRow e row).1 := by
  induction e generalizing row d with
  | zero => simp only [S.readRow, goodL]; omega
  | succ e ih =>
    rw [show S.readRow (e + 1) row = S.rowFrom (S.readRow e) row.length row.length (row.drop (S.countBlank row)) from rfl]
    have h2 := S.tt_split row (S.countBlank row)
    exact rowFrom_good (S.readRow e) d (by omega) (fun x hx => ih x (d + 1) (by omega) hx) (fun x hx => ih x (d + 2) (by omega) hx) _ _ _ (by omega)
mutual
theorem flatB_deep (d : Nat) : ∀ b : S.Blk, flatB contN (d + 1) b = (flatB contN d b).map Nd.deep
  | .at_ z k n i t lo kids => by
    have h1 := flatL_deep (d + 1) kids
    have h2 := ptsNds_deep (d + 1) (contT t)
    simp only [flatB, List.map_cons, List.map_append, h1]
    by_cases hk : k = 1 ∨ k = 2
    · rw [if_pos hk, if_pos hk, show contN t (d + 1 + 1) = (contN t (d + 1)).map Nd.deep from h2]; rfl
    · rw [if_neg hk, if_neg hk]; rfl
theorem flatL_deep (d : Nat) : ∀ l : List S.Blk, flatL contN (d + 1) l = (flatL contN d l).map Nd.deep
  | [] => by simp [flatL]
  | b :: r => by
    have h1 := flatB_deep d b
    have h2 := flatL_deep d r
    simp only [flatL, List.map_append, h1, h2]
end
end Go.Proofs.YtlojgpkajkedeaaGreatDoor
/- The tree of every text that is not too long. -/
namespace Go.Proofs.YtlojgpkajkedeaaGreatDoor
open Go.RowKit

/-- The nodes of a text. -/
noncomputable def nodesOf (l : List UInt8) : List Nd := flatL contN 0 (S.readRow (l.length + 1) (S.lines l)).1
theorem S.lines_len (l : List UInt8) : (S.lines l).length ≤ l.length + 1 := by
  unfold S.lines
  split
  · simp
  · rw [S.nl_length]
    obtain ⟨t, ht⟩ := S.trimSuffix_pre l
    have h2 := congrArg List.length ht
    rw [List.length_append] at h2
    have h3 : (Lib.trimSuffix l [10]).count 10 ≤ (Lib.trimSuffix l [10]).length := List.count_le_length
    omega
theorem S.lines_tt (l : List UInt8) : S.tt (S.lines l) ≤ 2 * l.length + 1 := by
  have h1 := S.lines_len l
  have h2 := S.bytes_lines l
  unfold S.tt; omega
theorem nodesOf_len (l : List UInt8) : (nodesOf l).length ≤ 10 * (2 * l.length + 1) := by
  have h1 := S.lines_tt l
  have h2 := S.readRow_wt (l.length + 1) (S.lines l)
  have h3 := flatL_wt 0 (S.readRow (l.length + 1) (S.lines l)).1
  unfold nodesOf; omega
theorem tree_all (s : ByteArray) (w : World) (hs : s.size ≤ 1500) (henv : Env w) :
    Calls Tryz.prog 14 #[.string s] w fun e w' => ∃ B a cp, e = .returned (.tuple #[.slice a (nodesOf s.data.toList).length cp, .int .i64 0]) ∧ w.heap.size ≤ B ∧ OwnsN B a cp (nodesOf s.data.toList) w' ∧ Below w.heap.size w w' := by
  have h1 := S.lines_tt s.data.toList
  have h2 := nodesOf_len s.data.toList
  rw [S.length_data] at h1 h2
  have := tree_any isC contN contOK_any s w hs henv _ rfl (readRow_good (s.size + 1) _ 0 (by omega) (by omega)) (by
    unfold nodesOf at h2; rw [S.length_data] at h2; omega)
  unfold nodesOf
  rw [S.length_data]
  exact this
end Go.Proofs.YtlojgpkajkedeaaGreatDoor
/- The statements' own helpers: deeper, same. -/
namespace Go.Proofs.YtlojgpkajkedeaaGreatDoor
open Go.RowKit

mutual
theorem ptNds_depth (d : Nat) : ∀ p : Pt, ∀ x ∈ ptNds d p, 0 ≤ x.depth ∧ x.depth < (d : Int) + cntP p
  | .mk k i t kids z o c => by
    have h := ptsNds_depth (d + 1) kids
    intro x hx
    simp only [ptNds, List.mem_cons] at hx
    have hc : cntP (.mk k i t kids z o c) = 1 + cntL kids := rfl
    rcases hx with rfl | hx
    · exact ⟨by show (0 : Int) ≤ (d : Int); omega, by show (d : Int) < _; rw [hc]; omega⟩
    · have := h x hx
      exact ⟨this.1, by rw [hc]; omega⟩
theorem ptsNds_depth (d : Nat) : ∀ l : List Pt, ∀ x ∈ ptsNds d l, 0 ≤ x.depth ∧ x.depth < (d : Int) + cntL l
  | [] => by intro x hx; simp [ptsNds] at hx
  | p :: r => by
    have h1 := ptNds_depth d p
    have h2 := ptsNds_depth d r
    intro x hx
    simp only [ptsNds, List.mem_append] at hx
    rw [cntL_cons]
    rcases hx with hx | hx
    · have := h1 x hx; exact ⟨this.1, by omega⟩
    · have := h2 x hx; exact ⟨this.1, by omega⟩
end
mutual
theorem flatB_depth (d : Nat) : ∀ b : S.Blk, ∀ x ∈ flatB contN d b, 0 ≤ x.depth ∧ x.depth < (d : Int) + S.wtB b
  | .at_ z k n i t lo kids => by
    have h1 := flatL_depth (d + 1) kids
    have h2 := ptsNds_depth (d + 1) (contT t)
    have h3 := contT_cnt t
    intro x hx
    simp only [flatB, List.mem_cons, List.mem_append] at hx
    simp only [S.wtB]
    rcases hx with rfl | hx | hx
    · exact ⟨by show (0 : Int) ≤ (d : Int); omega, by show (d : Int) < _; omega⟩
    · by_cases hk : k = 1 ∨ k = 2
      · rw [if_pos hk] at hx ⊢
        have := h2 x hx
        exact ⟨this.1, by omega⟩
      · rw [if_neg hk] at hx; simp at hx
    · have := h1 x hx
      exact ⟨this.1, by omega⟩
theorem flatL_depth (d : Nat) : ∀ l : List S.Blk, ∀ x ∈ flatL contN d l, 0 ≤ x.depth ∧ x.depth < (d : Int) + S.wtL l
  | [] => by intro x hx; simp [flatL] at hx
  | b :: r => by
    have h1 := flatB_depth d b
    have h2 := flatL_depth d r
    intro x hx
    simp only [flatL, List.mem_append] at hx
    simp only [S.wtL]
    rcases hx with hx | hx
    · have := h1 x hx; exact ⟨this.1, by omega⟩
    · have := h2 x hx; exact ⟨this.1, by omega⟩
end
theorem nodesOf_depth (l : List UInt8) (x : Nd) (h : x ∈ nodesOf l) : 0 ≤ x.depth ∧ x.depth < 10 * (2 * (l.length : Int) + 1) := by
  have h1 := flatL_depth 0 _ x h
  have h2 := S.readRow_wt (l.length + 1) (S.lines l)
  have h3 := S.lines_tt l
  exact ⟨h1.1, by omega⟩

/-- The cells of a list of nodes. -/
theorem ownsN_at {B : Nat} {a : Option Addr} {cp : Nat} {l : List Nd} {w : World} (h : OwnsN B a cp l w) (i : Nat) (x : Nd) (hi : l[i]? = some x) :
    ∃ g, a = some ⟨g, 0, none⟩ ∧ B ≤ g ∧ g < w.heap.size ∧ w.cell? ⟨g, i * 5, none⟩ = some (.int .i64 x.depth) ∧ w.cell? ⟨g, i * 5 + 1, none⟩ = some (.int .i64 x.kind) ∧ w.cell? ⟨g, i * 5 + 2, none⟩ = some (.int .i64 x.n) ∧ w.cell? ⟨g, i * 5 + 3, none⟩ = some (.string x.info) ∧ w.cell? ⟨g, i * 5 + 4, none⟩ = some (.string x.text) := by
  have hpos : 0 < l.length := by have := (List.getElem?_eq_some_iff.1 hi).1; omega
  obtain ⟨g, rfl, hg, hc, hcell⟩ := h.some hpos
  have hlt := (World.ownsRow.lt h g rfl).2
  refine ⟨g, rfl, hg, hlt, ?_, ?_, ?_, ?_, ?_⟩
  · have := hcell i 0 x _ hi (by omega) rfl; rw [Nat.mul_comm] at this; exact this
  · have := hcell i 1 x _ hi (by omega) rfl; rw [Nat.mul_comm] at this; exact this
  · have := hcell i 2 x _ hi (by omega) rfl; rw [Nat.mul_comm] at this; exact this
  · have := hcell i 3 x _ hi (by omega) rfl; rw [Nat.mul_comm] at this; exact this
  · have := hcell i 4 x _ hi (by omega) rfl; rw [Nat.mul_comm] at this; exact this

set_option maxRecDepth 100000 in
set_option maxHeartbeats 4000000 in
theorem deeper_any (B : Nat) (a : Option Addr) (cp : Nat) (l : List Nd) (w : World) (hown : OwnsN B a cp l w) (hl : l.length ≤ 1000000) (hd : ∀ x ∈ l, 0 ≤ x.depth ∧ x.depth < 1000000) :
    Calls Tryz.prog 25 #[.slice a l.length cp, .int .i64 1] w fun e w' => ∃ a' cp', e = .returned (.slice a' l.length cp') ∧ OwnsN w.heap.size a' cp' (l.map Nd.deep) w' ∧ Below w.heap.size w w' ∧ (l = [] → a' = none ∧ cp' = 0) := by
  obtain ⟨i0, hi, hz0, hz1, hz2⟩ := info_parts Tryz.infoNode
  have hownH := hid hown
  have hdH := hid hd
  clear hown hd
  go_enter Tryz.func25, Tryz.ntmps25
  go_wp2
  go_loopw [5, 6] (fun v i wr => ∃ (k : Nat) (a' : Option Addr) (cp' : Nat), k ≤ l.length ∧ i = .int .i64 k ∧ v = .slice a' k cp' ∧ OwnsN w.heap.size a' cp' ((l.take k).map Nd.deep) wr ∧ Below w.heap.size w wr ∧ Hid (k = 0 → a' = none ∧ cp' = 0)) (fun _ i _ => l.length - (intOf i).toNat)
  case atStart => exact ⟨0, none, 0, Nat.zero_le _, rfl, rfl, OwnsN.nil _ _, Below.refl _ _, hid (fun _ => ⟨rfl, rfl⟩)⟩
  case round =>
    obtain ⟨k, a', cp', hk, rfl, rfl, hownr, hb, hk0⟩ := hrel
    have hlenk : ((l.take k).map Nd.deep).length = k := by rw [List.length_map, List.length_take]; omega
    by_cases hlt : k < l.length
    · obtain ⟨x, hx⟩ : ∃ x, l[k]? = some x := ⟨l[k], List.getElem?_eq_getElem hlt⟩
      have hdx := hdH.out x (List.mem_of_getElem? hx)
      obtain ⟨g0, rfl, hg0, hg0l, c0, c1, c2, c3, c4⟩ := ownsN_at hownH.out k x hx
      obtain ⟨xd, xk, xn, xi, xt⟩ := x
      have key : ∀ j, wr.cell? ⟨g0, j, none⟩ = w.cell? ⟨g0, j, none⟩ := fun j => hb.cell (p := ⟨g0, j, none⟩) hg0l
      rw [← key] at c0 c1 c2 c3 c4
      dsimp only at c0 c1 c2 c3 c4 hdx
      have hnx : Hid ((l.take (k + 1)).map Nd.deep = (l.take k).map Nd.deep ++ [⟨xd + 1, xk, xn, xi, xt⟩]) := hid (by
        rw [List.take_add_one, hx, List.map_append]; rfl)
      have hi1 : (k : Int) < (l.length : Int) := by omega
      have hi0 : (0 : Int) ≤ (k : Int) := by omega
      have hszr : w.heap.size ≤ wr.heap.size := hb.size
      have hown2 : Hid (∀ o1 o2, ((wr.alloc o1).alloc o2).ownsRow w.heap.size 36 5 (.slice a' k cp') k (ndCells ((l.take k).map Nd.deep))) := hid (fun o1 o2 => by
        have := OwnsN.alloc (OwnsN.alloc hownr o1) o2
        unfold OwnsN at this; rwa [hlenk] at this)
      have hltr : Hid (∀ g, (Value.slice a' k cp').ownBlock = some g → w.heap.size ≤ g) := hid (fun g hg => by
        have := hownr.lt g (by rw [hlenk]; exact hg); exact this.1)
      have hnew : Hid (∀ X j u, (five ⟨xd + 1, xk, xn, xi, xt⟩)[j]? = some u → ((wr.alloc X).alloc (.cells #[.int .i64 (xd + 1), .int .i64 xk, .int .i64 xn, .string xi, .string xt] 36)).cell? ((⟨wr.heap.size + 1, 0, none⟩ : Addr).add j) = some u) := hid (by
        intro X j u hj
        have hsz : (wr.alloc X).heap.size = wr.heap.size + 1 := by simp
        have ha : (⟨wr.heap.size + 1, 0, none⟩ : Addr).add j = ⟨(wr.alloc X).heap.size, j, none⟩ := by
          rw [hsz]; simp only [Addr.add]; split
          · rename_i h; simp <;> omega
          · simp <;> omega
        rw [ha]
        exact cell_blk (alloc_new _ _) j u (by rw [← hj]; simp [five]))
      have hone : Hid (∀ u ∈ five ⟨xd + 1, xk, xn, xi, xt⟩, u.oneCell' = true) := hid (by
        intro u hu; simp [five] at hu; rcases hu with rfl | rfl | rfl | rfl | rfl <;> rfl)
      have hbH := hid hb
      have hwrap : IntKind.i64.wrap (xd + 1) = xd + 1 := by rw [IntKind.wrap_i64]; omega
      clear hownr hb key hlenk hx
      go_wp2_with (at_builtin; refine wpList_append_lies _ (by rfl) _ _ 22 (by rfl) w.heap.size 36 i0 (.agg #[.int .i64 0, .int .i64 0, .int .i64 0, .string ⟨#[]⟩, .string ⟨#[]⟩]) 5 56 Tryz.underlying22 hi hz0 hz1 hz2 (by rfl) (by omega) (.slice a' k cp') k (ndCells ((l.take k).map Nd.deep)) (by rfl) (hown2.out _ _) ⟨wr.heap.size + 1, 0, none⟩ 1 1 (five ⟨xd + 1, xk, xn, xi, xt⟩) (by rfl) (by rfl) (hnew.out _) hone.out (by omega) (by unfold maxLen; omega) (by omega) (by simp; omega) (wr.heap.size + 1 + 1) (by simp) ?_)
      intro g cap1 w3 hown3 hgrow hat hltg
      have hb3 : Hid (Below w.heap.size w w3) := hid (Below.grown ((hbH.out.alloc hszr _).alloc (by simp; omega) _) hgrow (by simp; omega) (fun q hq => hltr.out q hq))
      have hown4 : Hid (OwnsN w.heap.size (some ⟨g, 0, none⟩) cap1 ((l.take (k + 1)).map Nd.deep) w3) := hid (by
        unfold OwnsN
        rw [hnx.out, ndCells_snoc, List.length_append, List.length_map, List.length_take, Nat.min_eq_left hk]
        first | exact hown3 | (rw [List.map_take]; exact hown3))
      clear hown3 hgrow hat hltg
      go_wp2
      go_roundw
      case rel => exact ⟨k + 1, some ⟨g, 0, none⟩, cap1, by omega, by go_num, rfl, hown4.out, hb3.out, hid (fun h => by omega)⟩
      case measure => simp [intOf]; omega
    · obtain rfl : k = l.length := by omega
      rw [List.take_length] at hownr
      have hownrH := hid hownr
      have hbH := hid hb
      clear hownr hb hlenk
      go_wp2
      go_ret
      exact ⟨a', cp', rfl, hownrH.out, hbH.out, fun h => hk0.out (by rw [h]; rfl)⟩

set_option maxRecDepth 100000 in
set_option maxHeartbeats 4000000 in
theorem same_true (B1 B2 : Nat) (a1 a2 : Option Addr) (cp1 cp2 : Nat) (l : List Nd) (w : World) (h1 : OwnsN B1 a1 cp1 l w) (h2 : OwnsN B2 a2 cp2 l w) (hl : l.length ≤ 1000000) :
    Calls Tryz.prog 26 #[.slice a1 l.length cp1, .slice a2 l.length cp2] w fun e w' => e = .returned (.bool true) ∧ Below w.heap.size w w' := by
  have h1H := hid h1
  have h2H := hid h2
  clear h1 h2
  go_enter Tryz.func26, Tryz.ntmps26
  go_wp2
  go_loopw [5] (fun i wr => ∃ k : Nat, k ≤ l.length ∧ i = .int .i64 k ∧ Below w.heap.size w wr) (fun i _ => l.length - (intOf i).toNat)
  case atStart => exact ⟨0, Nat.zero_le _, rfl, Below.refl _ _⟩
  case round =>
    obtain ⟨k, hk, rfl, hb⟩ := hrel
    by_cases hlt : k < l.length
    · obtain ⟨x, hx⟩ : ∃ x, l[k]? = some x := ⟨l[k], List.getElem?_eq_getElem hlt⟩
      obtain ⟨g1, rfl, hg1, hg1l, c0, c1, c2, c3, c4⟩ := ownsN_at h1H.out k x hx
      obtain ⟨g2, rfl, hg2, hg2l, d0, d1, d2, d3, d4⟩ := ownsN_at h2H.out k x hx
      obtain ⟨xd, xk, xn, xi, xt⟩ := x
      have key : ∀ g j, g < w.heap.size → wr.cell? ⟨g, j, none⟩ = w.cell? ⟨g, j, none⟩ := fun g j hg => hb.cell (p := ⟨g, j, none⟩) hg
      rw [← key _ _ hg1l] at c0 c1 c2 c3 c4
      rw [← key _ _ hg2l] at d0 d1 d2 d3 d4
      dsimp only at c0 c1 c2 c3 c4 d0 d1 d2 d3 d4
      have hi1 : (k : Int) < (l.length : Int) := by omega
      have hi0 : (0 : Int) ≤ (k : Int) := by omega
      have hbH := hid hb
      clear hb key hx
      go_wp2_with fail
      go_region
      go_wp2
      go_roundw
      case rel => exact ⟨k + 1, by omega, by go_num, hbH.out.drew⟩
      case measure => simp [intOf]; omega
    · obtain rfl : k = l.length := by omega
      have hbH := hid hb
      clear hb
      go_wp2
      go_ret
      exact ⟨rfl, hbH.out⟩
end Go.Proofs.YtlojgpkajkedeaaGreatDoor
