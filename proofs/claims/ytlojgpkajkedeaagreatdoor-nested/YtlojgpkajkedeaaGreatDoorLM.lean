/- A text as an item of a list: plain. -/
import Derived.Test.YtlojgpkajkedeaaGreatDoorQQ
namespace Go.Proofs.YtlojgpkajkedeaaGreatDoor
open Go.RowKit
namespace S

theorem indent_cons (c : UInt8) (l : List UInt8) (h : c ≠ 32) : indent (c :: l) = 0 := by unfold indent; simp [cnt, h]
theorem indent_space (l : List UInt8) : indent (32 :: l) = indent l + 1 := by unfold indent; simp [cnt]
theorem blank_space (l : List UInt8) : blank (32 :: l) = blank l := by
  unfold blank; rw [indent_space, List.length_cons]
  by_cases h : indent l = l.length
  · rw [decide_eq_true h, decide_eq_true (by omega)]
  · rw [decide_eq_false h, decide_eq_false (by omega)]
theorem shallow_cons (c : UInt8) (l : List UInt8) (h : c ≠ 32) : shallow (c :: l) = c :: l := by
  rw [shallow_flat _ (by rw [indent_cons c l h]; omega), indent_cons c l h]; rfl

/-- What a marker gives with whatever stands behind it. -/
structure Marks (M : List UInt8) (num : Int) (kind : UInt8) : Prop where
  first : ∃ c t, M = c :: t ∧ c ≠ 32 ∧ c ∉ [(42 : UInt8), 45, 95] ∧ c ≠ 35 ∧ c ≠ 96 ∧ c ≠ 126 ∧ c ≠ 62
  no10 : 10 ∉ M
  item : ∀ l, blank l = false → indent l = 0 ∨ 4 ≤ indent l → item (M ++ l) = ⟨kind, num, M.length, false, true⟩

theorem marks_plus : Marks [43, 32] (-1) 43 := by
  refine ⟨⟨43, [32], rfl, by decide, by decide, by decide, by decide, by decide, by decide⟩, by decide, fun l hb hi => ?_⟩
  show item (43 :: 32 :: l) = _
  have hs := shallow_cons 43 (32 :: l) (by decide)
  have hd : digs (43 :: 32 :: l) = 0 := by simp [digs, isDig]
  have hm : markerSize (43 :: 32 :: l) = 1 := by
    rw [markerSize_yes _ 43 (by rw [hd]; omega) (by rw [hd]; rfl) (by rw [hd]; decide), hd]
  have he : endsWord (43 :: 32 :: l) 1 = true := by simp [endsWord]
  rw [item_yes _ (by rw [hs, hm, he]; simp), hs, hm]
  simp only [List.drop_succ_cons, List.drop_zero, blank_space, hb, indent_space, indent_cons 43 (32 :: l) (by decide)]
  have hz : (if false = true ∨ 5 ≤ indent l + 1 then 1 else indent l + 1) = 1 := by
    rcases hi with hi | hi
    · rw [hi]; rfl
    · rw [if_pos (.inr (by omega))]
  rw [hz]
  rfl
theorem marks_dig (c : UInt8) (hc : isDig c = true) : Marks [c, 41, 32] ((c.toNat - 48 : Nat) : Int) 41 := by
  have hr : 48 ≤ c.toNat ∧ c.toNat ≤ 57 := by simpa [isDig] using hc
  have hne : ∀ b : UInt8, (b.toNat < 48 ∨ 57 < b.toNat) → c ≠ b := fun b hb e => by subst e; omega
  refine ⟨⟨c, [41, 32], rfl, hne 32 (by decide), ?_, hne 35 (by decide), hne 96 (by decide), hne 126 (by decide), hne 62 (by decide)⟩, ?_, fun l hb hi => ?_⟩
  · have h1 := hne 42 (by decide); have h2 := hne 45 (by decide); have h3 := hne 95 (by decide)
    simp [h1, h2, h3]
  · have h1 := hne 10 (by decide)
    simp [h1.symm]
  show item (c :: 41 :: 32 :: l) = _
  have hs := shallow_cons c (41 :: 32 :: l) (hne 32 (by decide))
  have hd : digs (c :: 41 :: 32 :: l) = 1 := by
    simp only [digs, hc, if_pos]
    rw [if_neg (by decide)]
  have hm : markerSize (c :: 41 :: 32 :: l) = 2 := by
    rw [markerSize_yes _ 41 (by rw [hd]; omega) (by rw [hd]; rfl) (by rw [hd]; decide), hd]
  have he : endsWord (c :: 41 :: 32 :: l) 2 = true := by simp [endsWord]
  rw [item_yes _ (by rw [hs, hm, he]; simp), hs, hm]
  simp only [List.drop_succ_cons, List.drop_zero, blank_space, hb, indent_space, indent_cons c (41 :: 32 :: l) (hne 32 (by decide))]
  have hz : (if false = true ∨ 5 ≤ indent l + 1 then 1 else indent l + 1) = 1 := by
    rcases hi with hi | hi
    · rw [hi]; rfl
    · rw [if_pos (.inr (by omega))]
  rw [hz]
  show (⟨41, number [c], 3, false, true⟩ : Mark) = ⟨41, _, 3, false, true⟩
  have hn : number [c] = ((c.toNat - 48 : Nat) : Int) := by
    unfold number
    rw [if_neg (by simp)]
    show ((0 * 10 + (c.toNat - 48) : Nat) : Int) = _
    rw [Nat.zero_mul, Nat.zero_add]
  rw [hn]

def inn (m : Nat) (p : List UInt8) : List UInt8 := List.replicate m 32 ++ p
theorem indent_inn (m : Nat) (p : List UInt8) : indent (inn m p) = m + indent p := by
  induction m with
  | zero => simp [inn]
  | succ m ih => unfold inn at *; rw [List.replicate_succ, List.cons_append, indent_space, ih]; omega
theorem blank_inn (m : Nat) (p : List UInt8) : blank (inn m p) = blank p := by
  induction m with
  | zero => simp [inn]
  | succ m ih => unfold inn at *; rw [List.replicate_succ, List.cons_append, blank_space, ih]
theorem deep_all (m z k : Nat) (r : List (List UInt8)) (hne : r ≠ []) (hl : ∀ p, r.getLast? = some p → blank p = false) : countDeepFrom (m : Int) z k (r.map (inn m)) = k + r.length := by
  induction r generalizing z k with
  | nil => exact absurd rfl hne
  | cons p r ih =>
    simp only [List.map_cons, countDeepFrom, blank_inn, indent_inn]
    cases r with
    | nil =>
      have := hl p rfl
      rw [if_neg (by rw [this]; simp), if_neg (by omega)]
      rfl
    | cons q t =>
      have hl2 : ∀ p, (q :: t).getLast? = some p → blank p = false := fun x hx => hl x (by rw [List.getLast?_cons_cons]; exact hx)
      split
      · rw [ih z (k + 1) (by simp) hl2, List.length_cons, List.length_cons]; simp only [List.length_cons]; omega
      · rw [if_neg (by omega), ih (k + 1) (k + 1) (by simp) hl2]; simp only [List.length_cons]; omega
/-- The lines that the statement makes. -/
def listRow (M : List UInt8) (p : List UInt8) (r : List (List UInt8)) : List (List UInt8) := (M ++ p) :: r.map (inn M.length)
theorem listRow_len (M p : List UInt8) (r : List (List UInt8)) : (listRow M p r).length = r.length + 1 := by simp [listRow]
theorem listRow_deep (M p : List UInt8) (r : List (List UInt8)) (hl : ∀ q, r.getLast? = some q → blank q = false) : countDeep (M.length : Nat) (listRow M p r) = r.length + 1 := by
  unfold countDeep listRow
  rw [List.tail_cons]
  by_cases hr : r = []
  · subst hr; rfl
  · rw [deep_all _ _ _ _ hr hl]; omega
theorem listRow_own (M p : List UInt8) (r : List (List UInt8)) (num : Int) (kind : UInt8) (hl : ∀ q, r.getLast? = some q → blank q = false) :
    itemRow ⟨kind, num, M.length, false, true⟩ (listRow M p r) = p :: r := by
  unfold itemRow
  rw [if_neg (by simp)]
  show ((listRow M p r).take (countDeep (M.length : Nat) (listRow M p r))).map (fun l => l.drop M.length) = p :: r
  rw [listRow_deep M p r hl, ← listRow_len M p r, List.take_length]
  unfold listRow
  rw [List.map_cons, List.drop_left' rfl, List.map_map]
  have : (fun l => List.drop M.length l) ∘ inn M.length = id := by
    funext x; simp [inn]
  rw [this, List.map_id]
theorem listed_row (M p : List UInt8) (num : Int) (kind : UInt8) (hM : Marks M num kind) (r : List (List UInt8)) (d : Nat) (hb : blank p = false) (hi : indent p = 0 ∨ 4 ≤ indent p) (hl : ∀ q, r.getLast? = some q → blank q = false) :
    readRow (d + 1) (listRow M p r) = ([.mk 6 num [] [] (readRow d (p :: r)).2 [.mk 7 0 [] [] false (readRow d (p :: r)).1]], false) := by
  obtain ⟨c, t, hMc, h32, hru, h35, h96, h126, h62⟩ := hM.first
  have hit := hM.item p hb hi
  have hs : shallow (M ++ p) = M ++ p := by rw [hMc, List.cons_append]; exact shallow_cons _ _ h32
  have hs2 : shallow (M ++ p) = c :: (t ++ p) := by rw [hs, hMc]; rfl
  have hin : indent (M ++ p) = 0 := by rw [hMc, List.cons_append]; exact indent_cons _ _ h32
  have hbl : blank (M ++ p) = false := by
    unfold blank; rw [hin]
    have : 0 < (M ++ p).length := by rw [hMc]; simp
    exact decide_eq_false (by omega)
  have h1 : isRule (M ++ p) = false := isRule_no _ c (t ++ p) hs2 hru
  have h2 : titleLevel (M ++ p) = 0 := by unfold titleLevel; rw [hs2]; simp [cnt, h35]
  have h3 : (fence (M ++ p)).ok = false := by rw [fence_no _ c (t ++ p) hs2 h96 h126]
  have h4 : isQuoted (M ++ p) = false := by
    unfold isQuoted Lib.hasPrefix; rw [hs2]
    show ((62 : UInt8) == c && List.isPrefixOf [] (t ++ p)) = false
    rw [beq_eq_false_iff_ne.2 (Ne.symm h62)]; rfl
  have hbk : readBlock (readRow d) (listRow M p r) = (.mk 6 num [] [] (readRow d (p :: r)).2 [.mk 7 0 [] [] false (readRow d (p :: r)).1], (listRow M p r).length) := by
    have hrow : listRow M p r = (M ++ p) :: r.map (inn M.length) := rfl
    have hown := listRow_own M p r num kind hl
    have hlf : ∀ f, listFrom (readRow d) kind (r.length + 1) (f + 1) ⟨kind, num, M.length, false, true⟩ (listRow M p r) = ([.mk 7 0 [] [] false (readRow d (p :: r)).1], (readRow d (p :: r)).2, (p :: r).length) := by
      intro f
      rw [listFrom_succ, hown]
      have hd : (listRow M p r).drop (p :: r).length = [] := List.drop_eq_nil_of_le (by rw [listRow_len]; simp)
      rw [hd, show countBlank [] = 0 from rfl, Nat.add_zero, hd, listRow_len, Nat.sub_self]
      rfl
    rw [hrow]
    unfold readBlock
    dsimp only
    rw [if_neg (by rw [hin]; omega), if_neg (by rw [h1]; simp), h2, if_neg (by omega), if_neg (by rw [h3]; simp), if_neg (by rw [h4]; simp), hit, if_pos rfl, readList_eq, ← hrow]
    have hlen : (listRow M p r).length = r.length + 1 := listRow_len M p r
    dsimp only
    rw [hlen, hlf]
    rfl
  have hcb : countBlank (listRow M p r) = 0 := by
    show countBlank ((M ++ p) :: r.map (inn M.length)) = 0
    simp only [countBlank, hbl]; rfl
  rw [show readRow (d + 1) (listRow M p r) = rowFrom (readRow d) (listRow M p r).length (listRow M p r).length ((listRow M p r).drop (countBlank (listRow M p r))) from rfl, hcb, List.drop_zero]
  conv => lhs; rw [listRow_len]
  rw [rowFrom_step _ _ _ _ (by simp [listRow]), hbk]
  dsimp only
  rw [List.drop_length, show countBlank [] = 0 from rfl, show (listRow M p r).length + 0 = (listRow M p r).length from rfl, List.drop_length, rowFrom_nil, show (r.length + 1 - (listRow M p r).length : Nat) = 0 by rw [listRow_len, Nat.sub_self]]
  rfl
/-- The text that the statement makes of lines. -/
def listedOf (M p : List UInt8) (r : List (List UInt8)) : List UInt8 := ((listRow M p r).map (fun q => q ++ [10])).flatten
theorem listed_lines (M p : List UInt8) (num : Int) (kind : UInt8) (hM : Marks M num kind) (r : List (List UInt8)) (h : ∀ q ∈ p :: r, 10 ∉ q) : lines (listedOf M p r) = listRow M p r := by
  refine lines_flat _ ?_ (by simp [listRow])
  intro q hq
  unfold listRow at hq
  rcases List.mem_cons.1 hq with rfl | hq
  · rw [List.mem_append]; rintro (hm | hm)
    · exact hM.no10 hm
    · exact h p (by simp) hm
  · obtain ⟨x, hx, rfl⟩ := List.mem_map.1 hq
    have := h x (by simp [hx])
    unfold inn
    rw [List.mem_append]; rintro (hm | hm)
    · have := (List.mem_replicate.1 hm).2; simp at this
    · exact this hm
end S
def itemNd : Nd := ⟨1, 7, 0, ⟨#[]⟩, ⟨#[]⟩⟩
def listNd (num : Int) (lo : Bool) : Nd := ⟨0, 6, num, ⟨#[]⟩, spacingOf lo⟩
theorem S.listedOf_len (M p : List UInt8) (r : List (List UInt8)) : (S.listedOf M p r).length = bytes (p :: r) + (r.length + 1) + M.length * (r.length + 1) := by
  have h : ∀ L : List (List UInt8), ((L.map (fun q => q ++ [10])).flatten).length = bytes L + L.length := by
    intro L
    induction L with
    | nil => rfl
    | cons x t ih => rw [List.map_cons, List.flatten_cons, List.length_append, ih]; simp only [bytes, List.map_cons, List.sum_cons, List.length_append, List.length_cons, List.length_nil]; omega
  have h2 : ∀ L : List (List UInt8), bytes (L.map (S.inn M.length)) = bytes L + M.length * L.length := by
    intro L
    induction L with
    | nil => rfl
    | cons x t ih =>
      simp only [bytes, List.map_cons, List.sum_cons, List.length_cons] at *
      rw [ih, Nat.mul_succ]; simp only [S.inn, List.length_append, List.length_replicate]; omega
  unfold S.listedOf
  rw [h, S.listRow_len]
  unfold S.listRow
  have h3 : bytes ((M ++ p) :: r.map (S.inn M.length)) = M.length + p.length + bytes (r.map (S.inn M.length)) := by simp [bytes]
  have h4 : bytes (p :: r) = p.length + bytes r := by simp [bytes]
  rw [h3, h2, h4, Nat.mul_succ]; omega
theorem nodes_listed (M : List UInt8) (num : Int) (kind : UInt8) (hM : S.Marks M num kind) (l p : List UInt8) (r : List (List UInt8)) (hL : S.lines l = p :: r) (hb : S.blank p = false) (hi : S.indent p = 0 ∨ 4 ≤ S.indent p) (hl : ∀ q, r.getLast? = some q → S.blank q = false) :
    ∃ lo, nodesOf (S.listedOf M p r) = listNd num lo :: itemNd :: ((nodesOf l).map Nd.deep).map Nd.deep := by
  have hs := S.lines_sum l
  rw [hL] at hs
  have hq := S.listedOf_len M p r
  have hMl : 1 ≤ M.length := by obtain ⟨c, t, h, _⟩ := hM.first; rw [h]; simp
  have hmul : r.length + 1 ≤ M.length * (r.length + 1) := Nat.le_mul_of_pos_left _ hMl
  have hno : ∀ q ∈ p :: r, 10 ∉ q := fun q hq => S.lines_no l q (by rw [hL]; exact hq)
  have hb2 := S.bytes_lines l
  rw [hL] at hb2
  unfold nodesOf
  rw [S.listed_lines M p num kind hM r hno, S.listed_row M p num kind hM r _ hb hi hl, hL]
  simp only [List.length_cons] at hs
  rw [S.readRow_fuel (S.listedOf M p r).length (l.length + 1) (p :: r) (by omega) (by omega)]
  refine ⟨(S.readRow (l.length + 1) (p :: r)).2, ?_⟩
  simp only [flatL, flatB, List.append_nil]
  rw [if_neg (by decide), if_neg (by decide), List.nil_append, List.nil_append, flatL_deep, flatL_deep]
  rfl
end Go.Proofs.YtlojgpkajkedeaaGreatDoor
