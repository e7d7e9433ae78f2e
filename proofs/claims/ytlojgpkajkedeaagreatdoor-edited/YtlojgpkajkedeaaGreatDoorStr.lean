import Derived.Lib.Strings
import Derived.Lib.Bytealg
import Derived.Lib.TrimByte
import Derived.Lib.Atoi
import Derived.Lib.AtoiAll
import Derived.Lib.SplitLaws
import Derived.Lib.IndexBytes
/- Plain functions on bytes: what the program's small functions on lines compute. Nothing of the dump here. -/
namespace Go.Proofs.YtlojgpkajkedeaaGreatDoor.S
open Go

/-- A string of a list of bytes, and back. -/
def B (l : List UInt8) : ByteArray := ⟨l.toArray⟩
theorem size_B (l : List UInt8) : (B l).size = l.length := by simp [B, ByteArray.size]
theorem data_B (l : List UInt8) : (B l).data.toList = l := by simp [B]
theorem data_B' (l : List UInt8) : (ByteArray.mk l.toArray).data.toList = l := by simp
theorem size_B' (l : List UInt8) : (ByteArray.mk l.toArray).size = l.length := by simp [ByteArray.size]
theorem B_data (s : ByteArray) : B s.data.toList = s := by cases s; simp [B]
theorem length_data (s : ByteArray) : s.data.toList.length = s.size := (Lib.size_eq s).symm

theorem get_data (s : ByteArray) (k : Nat) (h : k < s.size) : s.data.toList[k]? = some s[k] := by
  rw [List.getElem?_eq_getElem (by rw [length_data]; exact h)]; rfl

/-- How many of a byte a list begins with. -/
def cnt (c : UInt8) : List UInt8 → Nat
  | [] => 0
  | x :: r => if x = c then cnt c r + 1 else 0

theorem cnt_le (c : UInt8) (l : List UInt8) : cnt c l ≤ l.length := by
  induction l with
  | nil => simp [cnt]
  | cons x r ih => simp only [cnt]; split <;> simp <;> omega

theorem cnt_ge (c : UInt8) (l : List UInt8) (k : Nat) (h : ∀ j, j < k → l[j]? = some c) : k ≤ cnt c l := by
  induction l generalizing k with
  | nil => cases k with
    | zero => simp
    | succ k => have := h 0 (by omega); simp at this
  | cons x r ih => cases k with
    | zero => simp
    | succ k =>
      have h0 := h 0 (by omega); simp at h0; subst h0
      have := ih k (fun j hj => by have := h (j + 1) (by omega); simpa using this)
      simp [cnt]; omega

theorem cnt_at (c : UInt8) (l : List UInt8) (k : Nat) (h : ∀ j, j < k → l[j]? = some c) (he : l[k]? ≠ some c) : cnt c l = k := by
  induction l generalizing k with
  | nil => cases k with
    | zero => simp [cnt]
    | succ k => have := h 0 (by omega); simp at this
  | cons x r ih => cases k with
    | zero => simp at he; simp [cnt, he]
    | succ k =>
      have h0 := h 0 (by omega); simp at h0; subst h0
      have := ih k (fun j hj => by have := h (j + 1) (by omega); simpa using this) (by simpa using he)
      simp [cnt, this]

/-- A line's indent; is it blank; its rest, if it is not too deep for marks. -/
def indent (l : List UInt8) : Nat := cnt 32 l
def blank (l : List UInt8) : Bool := decide (indent l = l.length)
def shallow (l : List UInt8) : List UInt8 := if 4 ≤ indent l then [] else l.drop (indent l)
theorem indent_le (l : List UInt8) : indent l ≤ l.length := cnt_le 32 l
theorem shallow_deep (l : List UInt8) (h : 4 ≤ indent l) : shallow l = [] := by simp [shallow, h]
theorem shallow_flat (l : List UInt8) (h : ¬ 4 ≤ indent l) : shallow l = l.drop (indent l) := by simp [shallow, h]
theorem shallow_le (l : List UInt8) : (shallow l).length ≤ l.length := by
  unfold shallow; split <;> simp
theorem drop_data (s : ByteArray) (k : Nat) : (s.extract k s.size).data.toList = s.data.toList.drop k := by
  rw [Lib.extract_data]; rw [List.take_of_length_le]; rw [List.length_drop, length_data]; exact Nat.le_refl _
theorem take_data (s : ByteArray) (k : Nat) : (s.extract 0 k).data.toList = s.data.toList.take k := by
  rw [Lib.extract_data]; simp

/-- Does a space or nothing stand at a place? -/
def endsWord (l : List UInt8) (k : Nat) : Bool := decide (k = l.length) || decide (l[k]? = some 32)
def titleLevel (l : List UInt8) : Nat := if 6 < cnt 35 (shallow l) ∨ endsWord (shallow l) (cnt 35 (shallow l)) = false then 0 else cnt 35 (shallow l)
def rowOf (l : List UInt8) (c : UInt8) : Bool := decide (0 < cnt c l) && blank (l.drop (cnt c l))
def underlineLevel (l : List UInt8) : Nat := if rowOf (shallow l) 61 = true then 1 else if rowOf (shallow l) 45 = true then 2 else 0
def closedBy (c : UInt8) (width : Int) (l : List UInt8) : Bool := decide (width ≤ (cnt c (shallow l) : Int)) && blank ((shallow l).drop (cnt c (shallow l)))

/-- How many blank lines a row begins with. -/
def countBlank : List (List UInt8) → Nat
  | [] => 0
  | x :: r => if blank x = true then countBlank r + 1 else 0
theorem countBlank_le (l : List (List UInt8)) : countBlank l ≤ l.length := by
  induction l with
  | nil => simp [countBlank]
  | cons x r ih => simp only [countBlank]; split <;> simp <;> omega
theorem countBlank_at (l : List (List UInt8)) (k : Nat) (h : ∀ j, j < k → (l[j]?.map blank) = some true) (he : (l[k]?.map blank) ≠ some true) : countBlank l = k := by
  induction l generalizing k with
  | nil => cases k with
    | zero => simp [countBlank]
    | succ k => have := h 0 (by omega); simp at this
  | cons x r ih => cases k with
    | zero => simp at he; simp [countBlank, he]
    | succ k =>
      have h0 := h 0 (by omega); simp at h0
      have := ih k (fun j hj => by have := h (j + 1) (by omega); simpa using this) (by simpa using he)
      simp [countBlank, this, h0]

/-- How many lines belong to the first one by their indent: 'size' so far, 'at' lines are looked at. -/
def countDeepFrom (margin : Int) (size at_ : Nat) : List (List UInt8) → Nat
  | [] => size
  | x :: r => if blank x = true then countDeepFrom margin size (at_ + 1) r
    else if (indent x : Int) < margin then size else countDeepFrom margin (at_ + 1) (at_ + 1) r
def countDeep (margin : Int) (l : List (List UInt8)) : Nat := countDeepFrom margin 1 1 l.tail

theorem countDeepFrom_end (m : Int) (z k : Nat) (l : List (List UInt8)) (h : l.length ≤ k) : countDeepFrom m z k (l.drop k) = z := by
  rw [List.drop_eq_nil_of_le h]; rfl
theorem countDeepFrom_step (m : Int) (z k : Nat) (l : List (List UInt8)) (x : List UInt8) (h : l[k]? = some x) :
    countDeepFrom m z k (l.drop k) = if blank x = true then countDeepFrom m z (k + 1) (l.drop (k + 1)) else if (indent x : Int) < m then z else countDeepFrom m (k + 1) (k + 1) (l.drop (k + 1)) := by
  obtain ⟨hk, hx⟩ := List.getElem?_eq_some_iff.1 h
  rw [List.drop_eq_getElem_cons hk, hx]; rfl
theorem countDeepFrom_le (m : Int) (z k : Nat) (l : List (List UInt8)) (h : z ≤ k) : countDeepFrom m z k l ≤ k + l.length := by
  induction l generalizing z k with
  | nil => simp [countDeepFrom]; exact h
  | cons x r ih =>
    simp only [countDeepFrom, List.length_cons]
    split
    · have := ih z (k + 1) (by omega); omega
    · split
      · omega
      · have := ih (k + 1) (k + 1) (by omega); omega
theorem countDeepFrom_ge (m : Int) (z k : Nat) (l : List (List UInt8)) (h : z ≤ k) : z ≤ countDeepFrom m z k l := by
  induction l generalizing z k with
  | nil => simp [countDeepFrom]
  | cons x r ih =>
    simp only [countDeepFrom]
    split
    · exact ih z (k + 1) (by omega)
    · split
      · omega
      · have := ih (k + 1) (k + 1) (by omega); omega
theorem countDeep_pos (m : Int) (l : List (List UInt8)) : 1 ≤ countDeep m l := countDeepFrom_ge m 1 1 _ (by omega)
theorem countDeep_le (m : Int) (l : List (List UInt8)) (h : 0 < l.length) : countDeep m l ≤ l.length := by
  have := countDeepFrom_le m 1 1 l.tail (by omega); rw [List.length_tail] at this; unfold countDeep; omega

def isRule (l : List UInt8) : Bool :=
  match shallow l with
  | [] => false
  | c :: r => (decide (c = 42) || decide (c = 45) || decide (c = 95)) && (decide (3 ≤ (c :: r).count c) && decide ((c :: r).count c + (c :: r).count 32 = (c :: r).length))
def isQuoted (l : List UInt8) : Bool := Lib.hasPrefix (shallow l) [62]
def unquoted (l : List UInt8) : List UInt8 := Lib.trimPrefix ((shallow l).drop 1) [32]

theorem indexByte_neg (l : List UInt8) (c : UInt8) : Lib.indexByte l c < 0 ↔ c ∉ l := by
  induction l with
  | nil => simp [Lib.indexByte]
  | cons b r ih =>
    have hge := Lib.indexByte_ge r c
    unfold Lib.indexByte
    by_cases hb : b = c
    · simp [hb]
    · have hb' : (b == c) = false := by simp [hb]
      rw [hb', if_neg (by simp)]
      by_cases hm : Lib.indexByte r c = -1
      · rw [if_pos (by simp [hm])]
        have : c ∉ r := ih.1 (by omega)
        simp [this, Ne.symm hb]
      · rw [if_neg (by simp [hm])]
        have : ¬ c ∉ r := fun h => by have := ih.2 h; omega
        simp at this
        simp [this]; omega
theorem extract_one (r : ByteArray) (h : 0 < r.size) : r.extract 0 1 = ⟨#[r[0]]⟩ := by
  rw [← B_data (r.extract 0 1), take_data]
  have : r.data.toList.take 1 = [r[0]] := by
    have hg := get_data r 0 h
    cases hl : r.data.toList with
    | nil => rw [hl] at hg; simp at hg
    | cons x t => rw [hl] at hg; simp at hg; simp [hg]
  rw [this]; rfl
theorem ne_nil_of_pos (r : ByteArray) (h : 0 < r.size) : ¬ r.toList = [] := by
  rw [Lib.toList_data]; intro he; have := length_data r; rw [he] at this; simp at this; omega
theorem isEmpty_of_pos (r : ByteArray) (h : 0 < r.size) : r.toList.isEmpty = false := by
  have := ne_nil_of_pos r h; simpa using this
theorem nil_of_zero (r : ByteArray) (h : r.size = 0) : r.toList = [] := by
  rw [Lib.toList_data]; apply List.eq_nil_of_length_eq_zero; rw [length_data]; exact h
theorem data_nil_of_zero (r : ByteArray) (h : r.size = 0) : r.data.toList = [] := by
  apply List.eq_nil_of_length_eq_zero; rw [length_data]; exact h
theorem data_cons (r : ByteArray) (h : 0 < r.size) : r.data.toList = r[0] :: r.data.toList.tail := by
  have hg := get_data r 0 h
  cases hl : r.data.toList with
  | nil => rw [hl] at hg; simp at hg
  | cons x t => rw [hl] at hg; simp at hg; simp [hg]
theorem count_two (l : List UInt8) (c d : UInt8) (h : c ≠ d) : l.count c + l.count d ≤ l.length := by
  induction l with
  | nil => simp
  | cons x r ih =>
    simp only [List.count_cons, List.length_cons]
    by_cases h1 : x = c
    · have h2 : ¬ x = d := fun e => h (h1.symm.trans e)
      simp [h1, h]; omega
    · simp [h1]; split <;> omega
theorem isRule_nil (l : List UInt8) (h : shallow l = []) : isRule l = false := by unfold isRule; rw [h]
theorem isRule_no (l : List UInt8) (c : UInt8) (t : List UInt8) (h : shallow l = c :: t) (hc : c ∉ [(42 : UInt8), 45, 95]) : isRule l = false := by
  unfold isRule; rw [h]; simp at hc; simp [hc]
theorem isRule_yes (l : List UInt8) (c : UInt8) (t : List UInt8) (h : shallow l = c :: t) (hc : c ∈ [(42 : UInt8), 45, 95]) :
    isRule l = (decide (3 ≤ (shallow l).count c) && decide ((shallow l).count c + (shallow l).count 32 = (shallow l).length)) := by
  have : (decide (c = 42) || decide (c = 45) || decide (c = 95)) = true := by
    simp at hc; rcases hc with h | h | h <;> simp [h]
  unfold isRule; rw [h]; show ((_ && _) = _); rw [this, Bool.true_and]

def titleOpen (l : List UInt8) : List UInt8 := Lib.trimB ((shallow l).drop (cnt 35 (shallow l))) 32
def titleContent (l : List UInt8) : List UInt8 :=
  if (Lib.trimRightB (titleOpen l) 35).isEmpty = true ∨ Lib.hasSuffix (Lib.trimRightB (titleOpen l) 35) [32] = true then Lib.trimRightB (Lib.trimRightB (titleOpen l) 35) 32 else titleOpen l
theorem trimLeftB_le (l : List UInt8) (c : UInt8) : (Lib.trimLeftB l c).length ≤ l.length := by
  unfold Lib.trimLeftB; exact (List.dropWhile_sublist _).length_le
theorem trimRightB_le (l : List UInt8) (c : UInt8) : (Lib.trimRightB l c).length ≤ l.length := by
  unfold Lib.trimRightB; rw [List.length_reverse]; have := (List.dropWhile_sublist (fun x => x == c) (l := l.reverse)).length_le; rw [List.length_reverse] at this; exact this
theorem trimB_le (l : List UInt8) (c : UInt8) : (Lib.trimB l c).length ≤ l.length := Nat.le_trans (trimLeftB_le _ _) (trimRightB_le _ _)

end Go.Proofs.YtlojgpkajkedeaaGreatDoor.S
/- Markers, items, fences: plain functions. -/
namespace Go.Proofs.YtlojgpkajkedeaaGreatDoor.S
open Go

/-- Digits ahead; a marker's size; its number. -/
def isDig (c : UInt8) : Bool := decide (48 ≤ c.toNat) && decide (c.toNat ≤ 57)
def digs : List UInt8 → Nat
  | [] => 0
  | x :: r => if isDig x = true then digs r + 1 else 0
theorem digs_le (l : List UInt8) : digs l ≤ l.length := by
  induction l with
  | nil => simp [digs]
  | cons x r ih => simp only [digs]; split <;> simp <;> omega
theorem digs_at (l : List UInt8) (k : Nat) (h : ∀ j, j < k → (l[j]?.map isDig) = some true) (he : (l[k]?.map isDig) ≠ some true) : digs l = k := by
  induction l generalizing k with
  | nil => cases k with
    | zero => simp [digs]
    | succ k => have := h 0 (by omega); simp at this
  | cons x r ih => cases k with
    | zero => simp at he; simp [digs, he]
    | succ k =>
      have h0 := h 0 (by omega); simp at h0
      have := ih k (fun j hj => by have := h (j + 1) (by omega); simpa using this) (by simpa using he)
      simp [digs, this, h0]
theorem digs_all (l : List UInt8) : ∀ x ∈ l.take (digs l), isDig x = true := by
  induction l with
  | nil => simp
  | cons x r ih =>
    simp only [digs]; split
    · rename_i h; simp only [List.take_succ_cons, List.mem_cons]; rintro y (rfl | hy)
      · exact h
      · exact ih y hy
    · simp
def markEnds (d : Nat) : List UInt8 := if d = 0 then [45, 43, 42] else [46, 41]
def markerSize (l : List UInt8) : Nat :=
  if 6 < digs l then 0 else match l[digs l]? with
    | none => 0
    | some c => if c ∈ markEnds (digs l) then digs l + 1 else 0
theorem markerSize_long (l : List UInt8) (h : 6 < digs l) : markerSize l = 0 := by simp [markerSize, h]
theorem markerSize_end (l : List UInt8) (h : digs l = l.length) : markerSize l = 0 := by
  unfold markerSize; split
  · rfl
  · rw [List.getElem?_eq_none (by omega)]
theorem markerSize_no (l : List UInt8) (c : UInt8) (h : l[digs l]? = some c) (hc : c ∉ markEnds (digs l)) : markerSize l = 0 := by
  unfold markerSize; split
  · rfl
  · rw [h]; simp [hc]
theorem markerSize_yes (l : List UInt8) (c : UInt8) (h6 : ¬ 6 < digs l) (h : l[digs l]? = some c) (hc : c ∈ markEnds (digs l)) : markerSize l = digs l + 1 := by
  unfold markerSize; rw [if_neg h6, h]; simp [hc]
theorem markerSize_le (l : List UInt8) : markerSize l ≤ l.length := by
  unfold markerSize; split
  · omega
  · cases h : l[digs l]? with
    | none => simp
    | some c =>
      have := (List.getElem?_eq_some_iff.1 h).1
      simp only []; split <;> omega
theorem markerSize_eq (l : List UInt8) (h : markerSize l ≠ 0) : markerSize l = digs l + 1 ∧ digs l ≤ 6 := by
  unfold markerSize at h ⊢; split at h
  · exact absurd rfl h
  · rename_i h6; rw [if_neg h6]
    cases hc : l[digs l]? with
    | none => rw [hc] at h; exact absurd rfl h
    | some c => rw [hc] at h; simp only [] at h ⊢; split at h
                · rename_i hm; rw [if_pos hm]; exact ⟨rfl, by omega⟩
                · exact absurd rfl h
/-- The number that digits spell; -1: none. -/
def dec (l : List UInt8) : Nat := l.foldl (fun a b => a * 10 + (b.toNat - 48)) 0
def number (l : List UInt8) : Int := if l = [] then -1 else (dec l : Int)
theorem decFrom_dec (l : List UInt8) (a : Nat) (h : ∀ x ∈ l, isDig x = true) : Lib.decFrom a l = some (l.foldl (fun a b => a * 10 + (b.toNat - 48)) a) := by
  induction l generalizing a with
  | nil => rfl
  | cons x r ih =>
    have hx := h x (by simp)
    simp only [isDig, Bool.and_eq_true, decide_eq_true_eq] at hx
    simp only [Lib.decFrom, Lib.digitVal, if_pos hx, List.foldl_cons]
    exact ih _ (fun y hy => h y (by simp [hy]))
theorem atoi_dec (l : List UInt8) (hne : l ≠ []) (h : ∀ x ∈ l, isDig x = true) : Lib.atoi l = some (dec l : Int) := by
  cases l with
  | nil => exact absurd rfl hne
  | cons b r =>
    have hx := h b (by simp)
    simp only [isDig, Bool.and_eq_true, decide_eq_true_eq] at hx
    have h1 : (b == 45) = false := by rw [beq_eq_false_iff_ne]; intro e; rw [e] at hx; simp at hx
    have h2 : (b == 43) = false := by rw [beq_eq_false_iff_ne]; intro e; rw [e] at hx; simp at hx
    simp only [Lib.atoi]; rw [h1, h2, if_neg (by simp), if_neg (by simp)]
    unfold Lib.decNat; rw [if_neg (by simp), decFrom_dec _ _ h]; rfl
theorem dec_lt (l : List UInt8) (h : ∀ x ∈ l, isDig x = true) (a k : Nat) (ha : a < 10 ^ k) : l.foldl (fun a b => a * 10 + (b.toNat - 48)) a < 10 ^ (k + l.length) := by
  induction l generalizing a k with
  | nil => simpa using ha
  | cons x r ih =>
    have hx := h x (by simp)
    simp only [isDig, Bool.and_eq_true, decide_eq_true_eq] at hx
    simp only [List.foldl_cons, List.length_cons]
    have := ih (fun y hy => h y (by simp [hy])) (a * 10 + (x.toNat - 48)) (k + 1) (by rw [Nat.pow_succ]; omega)
    rw [show k + (r.length + 1) = k + 1 + r.length from by omega]; exact this

/-- Does a line that begins with so many of a byte, and the info behind them, open a fence? -/
def fenceOk (c : UInt8) (width : Nat) (info : List UInt8) : Bool := decide (3 ≤ width) && !(decide (c = 96) && decide (96 ∈ info))

structure Fence where
  mark : UInt8
  width : Nat
  ind : Nat
  info : List UInt8
  ok : Bool
def fenceInfo (l : List UInt8) (c : UInt8) : List UInt8 := Lib.trimB (l.drop (cnt c l)) 32
def fence (l : List UInt8) : Fence :=
  match shallow l with
  | [] => ⟨0, 0, 0, [], false⟩
  | c :: t => if c = 96 ∨ c = 126 then ⟨c, cnt c (c :: t), indent l, fenceInfo (c :: t) c, fenceOk c (cnt c (c :: t)) (fenceInfo (c :: t) c)⟩ else ⟨0, 0, 0, [], false⟩
theorem fence_nil (l : List UInt8) (h : shallow l = []) : fence l = ⟨0, 0, 0, [], false⟩ := by unfold fence; rw [h]
theorem fence_no (l : List UInt8) (c : UInt8) (t : List UInt8) (h : shallow l = c :: t) (h1 : ¬ c = 96) (h2 : ¬ c = 126) : fence l = ⟨0, 0, 0, [], false⟩ := by
  unfold fence; rw [h]; simp [h1, h2]
theorem fence_yes (l : List UInt8) (c : UInt8) (t : List UInt8) (h : shallow l = c :: t) (h1 : c = 96 ∨ c = 126) :
    fence l = ⟨c, cnt c (c :: t), indent l, fenceInfo (c :: t) c, fenceOk c (cnt c (c :: t)) (fenceInfo (c :: t) c)⟩ := by
  unfold fence; rw [h]; simp [h1]

/-- An item: is it one, its kind, number, margin, is it empty? -/
structure Mark where
  kind : UInt8
  number : Int
  margin : Nat
  empty : Bool
  ok : Bool
def item (l : List UInt8) : Mark :=
  if markerSize (shallow l) = 0 ∨ endsWord (shallow l) (markerSize (shallow l)) = false then ⟨0, 0, 0, false, false⟩
  else
    let n := markerSize (shallow l)
    let behind := (shallow l).drop n
    ⟨(shallow l).getD (n - 1) 0, number ((shallow l).take (n - 1)), indent l + n + (if blank behind = true ∨ 5 ≤ indent behind then 1 else indent behind), blank behind, true⟩
theorem item_no (l : List UInt8) (h : markerSize (shallow l) = 0 ∨ endsWord (shallow l) (markerSize (shallow l)) = false) : item l = ⟨0, 0, 0, false, false⟩ := by
  unfold item; rw [if_pos h]
theorem item_yes (l : List UInt8) (h : ¬ (markerSize (shallow l) = 0 ∨ endsWord (shallow l) (markerSize (shallow l)) = false)) :
    item l = ⟨(shallow l).getD (markerSize (shallow l) - 1) 0, number ((shallow l).take (markerSize (shallow l) - 1)), indent l + markerSize (shallow l) + (if blank ((shallow l).drop (markerSize (shallow l))) = true ∨ 5 ≤ indent ((shallow l).drop (markerSize (shallow l))) then 1 else indent ((shallow l).drop (markerSize (shallow l)))), blank ((shallow l).drop (markerSize (shallow l))), true⟩ := by
  unfold item; rw [if_neg h]

end Go.Proofs.YtlojgpkajkedeaaGreatDoor.S
/- The blocks of a row of lines: plain functions. -/
namespace Go.Proofs.YtlojgpkajkedeaaGreatDoor.S
open Go

/-- Does a line end a paragraph? -/
def endsPar (l : List UInt8) : Bool :=
  blank l || decide (0 < underlineLevel l) || isRule l || decide (0 < titleLevel l) || isQuoted l || (fence l).ok || ((item l).ok && (!(item l).empty && ((item l).number == -1 || (item l).number == 1)))

/-- A block, or an item of a list. -/
inductive Blk where
  | at_ (line : Int) (kind : Int) (n : Int) (info text : List UInt8) (loose : Bool) (kids : List Blk)
/-- One that begins where that begins which it stands in. -/
abbrev Blk.mk (kind : Int) (n : Int) (info text : List UInt8) (loose : Bool) (kids : List Blk) : Blk := .at_ 0 kind n info text loose kids
def Blk.line : Blk → Int | .at_ z _ _ _ _ _ _ => z
def Blk.kind : Blk → Int | .at_ _ k _ _ _ _ _ => k
def Blk.n : Blk → Int | .at_ _ _ n _ _ _ _ => n
def Blk.info : Blk → List UInt8 | .at_ _ _ _ i _ _ _ => i
def Blk.text : Blk → List UInt8 | .at_ _ _ _ _ t _ _ => t
def Blk.loose : Blk → Bool | .at_ _ _ _ _ _ l _ => l
def Blk.kids : Blk → List Blk | .at_ _ _ _ _ _ _ k => k
/-- The same, at a line. -/
def Blk.put (z : Int) : Blk → Blk | .at_ _ k n i t l ks => .at_ z k n i t l ks
theorem Blk.put_kids (z : Int) (b : Blk) : (b.put z).kids = b.kids := by cases b; rfl
theorem Blk.put_kind (z : Int) (b : Blk) : (b.put z).kind = b.kind := by cases b; rfl
theorem Blk.put_n (z : Int) (b : Blk) : (b.put z).n = b.n := by cases b; rfl
theorem Blk.put_info (z : Int) (b : Blk) : (b.put z).info = b.info := by cases b; rfl
theorem Blk.put_text (z : Int) (b : Blk) : (b.put z).text = b.text := by cases b; rfl
theorem Blk.put_loose (z : Int) (b : Blk) : (b.put z).loose = b.loose := by cases b; rfl
theorem Blk.put_line (z : Int) (b : Blk) : (b.put z).line = z := by cases b; rfl

/-- Code by an indent: its text. -/
def codeText (rows : List (List UInt8)) : List UInt8 := (rows.map (fun l => l.drop 4 ++ [10])).flatten
def readIndented (row : List (List UInt8)) : Blk × Nat := (.mk 3 0 [] (codeText (row.take (countDeep 4 row))) false [], countDeep 4 row)
/-- Code between fences: how many lines up to the one that closes; its text. -/
def fencedSize (c : UInt8) (width : Nat) : List (List UInt8) → Nat
  | [] => 0
  | x :: r => if closedBy c width x = true then 0 else fencedSize c width r + 1
def fencedText (ind : Nat) (rows : List (List UInt8)) : List UInt8 := (rows.map (fun l => l.drop (min ind (indent l)) ++ [10])).flatten
def readFenced (f : Fence) (row : List (List UInt8)) : Blk × Nat :=
  (.mk 3 0 f.info (fencedText f.ind (row.tail.take (fencedSize f.mark f.width row.tail))) false [], min (fencedSize f.mark f.width row.tail + 1 + 1) row.length)
/-- A paragraph: how many lines behind the first one; its content. -/
def parSize : List (List UInt8) → Nat
  | [] => 0
  | x :: r => if endsPar x = true then 0 else parSize r + 1
def joinLines : List (List UInt8) → List UInt8
  | [] => []
  | [x] => x.drop (indent x)
  | x :: y :: r => x.drop (indent x) ++ 10 :: joinLines (y :: r)
def readParagraph (row : List (List UInt8)) : Blk × Nat :=
  let size := parSize row.tail + 1
  let text := Lib.trimRightB (joinLines (row.take size)) 32
  match row[size]? with
  | none => (.mk 1 0 [] text false [], size)
  | some l => if 0 < underlineLevel l then (.mk 2 (underlineLevel l) [] text false [], size + 1) else (.mk 1 0 [] text false [], size)
/-- The lines of an item. -/
def itemRow (m : Mark) (row : List (List UInt8)) : List (List UInt8) :=
  if m.empty = true ∧ (row[1]?.map blank) = some true then [[]] else (row.take (countDeep m.margin row)).map (fun l => l.drop m.margin)
def nextItem (kind : UInt8) (row : List (List UInt8)) : Mark :=
  match row with
  | [] => ⟨0, 0, 0, false, false⟩
  | l :: _ => if isRule l = true then ⟨0, 0, 0, false, false⟩ else { item l with ok := (item l).ok && decide ((item l).kind = kind) }
/-- The lines of a quote. -/
def quoteRow : List (List UInt8) → List (List UInt8)
  | [] => []
  | x :: r => if isQuoted x = true then unquoted x :: quoteRow r else []
/-- The items of a list: fuel, the first item's mark, what is read of a row. -/
def listFrom (sub : List (List UInt8) → List Blk × Bool) (kind : UInt8) (Z : Nat) : Nat → Mark → List (List UInt8) → List Blk × Bool × Nat
  | 0, _, _ => ([], false, 0)
  | f + 1, m, row =>
    let own := itemRow m row
    let (kids, parted) := sub own
    let kid := Blk.at_ ((Z - row.length : Nat) : Int) 7 0 [] [] false kids
    let gap := countBlank (row.drop own.length)
    let next := nextItem kind (row.drop (own.length + gap))
    if next.ok = true then
      let (more, loose, size) := listFrom sub kind Z f next (row.drop (own.length + gap))
      (kid :: more, parted || decide (0 < gap) || loose, own.length + gap + size)
    else ([kid], parted, own.length)
def readList (sub : List (List UInt8) → List Blk × Bool) (m : Mark) (row : List (List UInt8)) : Blk × Nat :=
  let (items, loose, size) := listFrom sub m.kind row.length row.length m row
  (.mk 6 m.number [] [] loose items, size)
def readBlock (sub : List (List UInt8) → List Blk × Bool) (row : List (List UInt8)) : Blk × Nat :=
  match row with
  | [] => (.mk 0 0 [] [] false [], 1)
  | first :: _ =>
    if 4 ≤ indent first then readIndented row
    else if isRule first = true then (.mk 4 0 [] [] false [], 1)
    else if 0 < titleLevel first then (.mk 2 (titleLevel first) [] (titleContent first) false [], 1)
    else if (fence first).ok = true then readFenced (fence first) row
    else if isQuoted first = true then (.mk 5 0 [] [] false (sub (quoteRow row)).1, (quoteRow row).length)
    else if (item first).ok = true then readList sub (item first) row
    else readParagraph row
/-- The blocks of a row, behind its blank lines: fuel, what is read of a row. -/
def rowFrom (sub : List (List UInt8) → List Blk × Bool) (Z : Nat) : Nat → List (List UInt8) → List Blk × Bool
  | 0, _ => ([], false)
  | f + 1, row =>
    if row = [] then ([], false) else
    let (b, size) := readBlock sub row
    let gap := countBlank (row.drop size)
    let rest := row.drop (size + gap)
    let (more, parted) := rowFrom sub Z f rest
    (b.put ((Z - row.length : Nat) : Int) :: more, (decide (0 < gap) && !rest.isEmpty) || parted)
/-- readRow, at a depth. -/
def readRow : Nat → List (List UInt8) → List Blk × Bool
  | 0, _ => ([], false)
  | d + 1, row => rowFrom (readRow d) row.length row.length (row.drop (countBlank row))

end Go.Proofs.YtlojgpkajkedeaaGreatDoor.S
/- How many lines a block takes: plain facts. -/
namespace Go.Proofs.YtlojgpkajkedeaaGreatDoor.S
open Go

theorem fencedSize_le (c : UInt8) (w : Nat) (l : List (List UInt8)) : fencedSize c w l ≤ l.length := by
  induction l with
  | nil => simp [fencedSize]
  | cons x r ih => simp only [fencedSize]; split <;> simp <;> omega
theorem parSize_le (l : List (List UInt8)) : parSize l ≤ l.length := by
  induction l with
  | nil => simp [parSize]
  | cons x r ih => simp only [parSize]; split <;> simp <;> omega
theorem quoteRow_le (l : List (List UInt8)) : (quoteRow l).length ≤ l.length := by
  induction l with
  | nil => simp [quoteRow]
  | cons x r ih => simp only [quoteRow]; split <;> simp <;> omega
theorem itemRow_le (m : Mark) (row : List (List UInt8)) (h : 0 < row.length) : 1 ≤ (itemRow m row).length ∧ (itemRow m row).length ≤ row.length := by
  unfold itemRow; split
  · simp; omega
  · have h1 := countDeep_pos m.margin row
    have h2 := countDeep_le m.margin row h
    rw [List.length_map, List.length_take]; omega
theorem nextItem_ok (kind : UInt8) (row : List (List UInt8)) (h : (nextItem kind row).ok = true) : 0 < row.length := by
  cases row with
  | nil => simp [nextItem] at h
  | cons x r => simp
theorem listFrom_succ (sub : List (List UInt8) → List Blk × Bool) (kind : UInt8) (Z f : Nat) (m : Mark) (row : List (List UInt8)) :
    listFrom sub kind Z (f + 1) m row =
      if (nextItem kind (row.drop ((itemRow m row).length + countBlank (row.drop (itemRow m row).length)))).ok = true then
        (Blk.at_ ((Z - row.length : Nat) : Int) 7 0 [] [] false (sub (itemRow m row)).1 :: (listFrom sub kind Z f (nextItem kind (row.drop ((itemRow m row).length + countBlank (row.drop (itemRow m row).length)))) (row.drop ((itemRow m row).length + countBlank (row.drop (itemRow m row).length)))).1,
          (sub (itemRow m row)).2 || decide (0 < countBlank (row.drop (itemRow m row).length)) || (listFrom sub kind Z f (nextItem kind (row.drop ((itemRow m row).length + countBlank (row.drop (itemRow m row).length)))) (row.drop ((itemRow m row).length + countBlank (row.drop (itemRow m row).length)))).2.1,
          (itemRow m row).length + countBlank (row.drop (itemRow m row).length) + (listFrom sub kind Z f (nextItem kind (row.drop ((itemRow m row).length + countBlank (row.drop (itemRow m row).length)))) (row.drop ((itemRow m row).length + countBlank (row.drop (itemRow m row).length)))).2.2)
      else ([Blk.at_ ((Z - row.length : Nat) : Int) 7 0 [] [] false (sub (itemRow m row)).1], (sub (itemRow m row)).2, (itemRow m row).length) := rfl
theorem listFrom_size (sub : List (List UInt8) → List Blk × Bool) (kind : UInt8) (Z f : Nat) (m : Mark) (row : List (List UInt8)) (h : 0 < row.length) (hf : row.length ≤ f) :
    1 ≤ (listFrom sub kind Z f m row).2.2 ∧ (listFrom sub kind Z f m row).2.2 ≤ row.length := by
  induction f generalizing m row with
  | zero => omega
  | succ f ih =>
    have ho := itemRow_le m row h
    have hg := countBlank_le (row.drop (itemRow m row).length)
    rw [List.length_drop] at hg
    rw [listFrom_succ]
    split
    · rename_i hn
      have hp := nextItem_ok _ _ hn
      rw [List.length_drop] at hp
      have := ih (nextItem kind (row.drop ((itemRow m row).length + countBlank (row.drop (itemRow m row).length)))) (row.drop ((itemRow m row).length + countBlank (row.drop (itemRow m row).length))) (by rw [List.length_drop]; exact hp) (by rw [List.length_drop]; omega)
      rw [List.length_drop] at this
      simp only []; omega
    · simp only []; omega
theorem readList_eq (sub : List (List UInt8) → List Blk × Bool) (m : Mark) (row : List (List UInt8)) : readList sub m row = (.mk 6 m.number [] [] (listFrom sub m.kind row.length row.length m row).2.1 (listFrom sub m.kind row.length row.length m row).1, (listFrom sub m.kind row.length row.length m row).2.2) := rfl
theorem readBlock_size (sub : List (List UInt8) → List Blk × Bool) (x : List UInt8) (r : List (List UInt8)) :
    1 ≤ (readBlock sub (x :: r)).2 ∧ (readBlock sub (x :: r)).2 ≤ (x :: r).length := by
  unfold readBlock
  simp only []
  split
  · exact ⟨countDeep_pos _ _, countDeep_le _ _ (by simp)⟩
  · split
    · simp
    · split
      · simp
      · split
        · simp only [readFenced, List.tail_cons, List.length_cons]; omega
        · split
          · rename_i h
            have h1 : (quoteRow (x :: r)).length = (quoteRow r).length + 1 := by simp [quoteRow, h]
            have h2 := quoteRow_le r
            simp only [h1, List.length_cons]; omega
          · split
            · rw [readList_eq]; exact listFrom_size sub (item x).kind (x :: r).length (x :: r).length (item x) (x :: r) (by simp) (Nat.le_refl _)
            · have hp := parSize_le r
              simp only [readParagraph, List.tail_cons]
              split
              · simp only [List.length_cons]; omega
              · rename_i l hl
                have hlt := (List.getElem?_eq_some_iff.1 hl).1
                split <;> simp only [List.length_cons] at * <;> omega
theorem rowFrom_nil (sub : List (List UInt8) → List Blk × Bool) (Z f : Nat) : rowFrom sub Z f [] = ([], false) := by
  cases f <;> simp [rowFrom]
theorem rowFrom_step (sub : List (List UInt8) → List Blk × Bool) (Z f : Nat) (row : List (List UInt8)) (h : row ≠ []) :
    rowFrom sub Z (f + 1) row = ((readBlock sub row).1.put ((Z - row.length : Nat) : Int) :: (rowFrom sub Z f (row.drop ((readBlock sub row).2 + countBlank (row.drop (readBlock sub row).2)))).1,
      (decide (0 < countBlank (row.drop (readBlock sub row).2)) && !(row.drop ((readBlock sub row).2 + countBlank (row.drop (readBlock sub row).2))).isEmpty) || (rowFrom sub Z f (row.drop ((readBlock sub row).2 + countBlank (row.drop (readBlock sub row).2)))).2) := by
  simp only [rowFrom, if_neg h]

end Go.Proofs.YtlojgpkajkedeaaGreatDoor.S
/- The lines of a text: plain facts. -/
namespace Go.Proofs.YtlojgpkajkedeaaGreatDoor.S
open Go

/-- What stands between newlines. -/
def nl : List UInt8 → List (List UInt8)
  | [] => [[]]
  | b :: l => if b = 10 then [] :: nl l else match nl l with
    | p :: r => (b :: p) :: r
    | [] => [[b]]
theorem nl_length (l : List UInt8) : (nl l).length = l.count 10 + 1 := by
  induction l with
  | nil => rfl
  | cons b l ih =>
    simp only [nl]; split
    · rename_i h; subst h; simp [ih]
    · rename_i h
      cases hn : nl l with
      | nil => rw [hn] at ih; simp at ih
      | cons p r => rw [hn] at ih; simp [h]; simpa using ih
theorem nl_none (l : List UInt8) (h : l.count 10 = 0) : nl l = [l] := by
  induction l with
  | nil => rfl
  | cons b l ih =>
    have hb : ¬ b = 10 := by intro e; subst e; simp at h
    have hl : l.count 10 = 0 := by rw [List.count_cons] at h; omega
    simp only [nl, if_neg hb, ih hl]
theorem index_cons (b : UInt8) (l : List UInt8) (h : ¬ b = 10) : Lib.indexByte (b :: l) 10 = if Lib.indexByte l 10 == -1 then -1 else Lib.indexByte l 10 + 1 := by
  rw [Lib.indexByte]; rw [if_neg (by simpa using h)]
theorem index_none (l : List UInt8) : Lib.indexByte l 10 = -1 ↔ l.count 10 = 0 := by
  have h := indexByte_neg l 10
  have hg := Lib.indexByte_ge l 10
  rw [List.count_eq_zero]
  constructor
  · intro e; exact h.1 (by omega)
  · intro e; have := h.2 e; omega
theorem splitK_nl (l : List UInt8) : Lib.splitK [10] 0 (l.count 10) l = nl l := by
  induction l with
  | nil => rfl
  | cons b l ih =>
    by_cases hb : b = 10
    · subst hb
      have hi : Lib.index ((10 : UInt8) :: l) [10] = 0 := by rw [Lib.index_one, Lib.indexByte]; simp
      rw [List.count_cons_self, Lib.splitK, hi, if_neg (by decide)]
      simp only [nl, if_true]
      simp [ih]
    · rw [List.count_cons_of_ne (by simpa using hb)]
      by_cases hc : l.count 10 = 0
      · rw [hc]; simp only [Lib.splitK]
        rw [nl_none _ (by rw [List.count_cons_of_ne (by simpa using hb)]; exact hc)]
      · obtain ⟨k, hk⟩ : ∃ k, l.count 10 = k + 1 := ⟨l.count 10 - 1, by omega⟩
        have hne : ¬ Lib.indexByte l 10 = -1 := fun e => hc ((index_none l).1 e)
        obtain ⟨i, hi⟩ : ∃ i : Nat, Lib.indexByte l 10 = (i : Int) := ⟨(Lib.indexByte l 10).toNat, by have := Lib.indexByte_ge l 10; omega⟩
        rw [hk] at ih ⊢
        have e1 : Lib.index (b :: l) [10] = ((i + 1 : Nat) : Int) := by
          rw [Lib.index_one, index_cons _ _ hb, if_neg (by simpa using hne), hi]; rfl
        have e2 : Lib.index l [10] = (i : Int) := by rw [Lib.index_one, hi]
        rw [Lib.splitK, e2, if_neg (by rw [beq_iff_eq]; omega)] at ih
        rw [Lib.splitK, e1, if_neg (by rw [beq_iff_eq]; omega)]
        simp only [nl, if_neg hb]
        rw [← ih]
        simp
/-- The lines of a text. -/
def lines (l : List UInt8) : List (List UInt8) := if l = [] then [] else nl (Lib.trimSuffix l [10])

end Go.Proofs.YtlojgpkajkedeaaGreatDoor.S
/- The blocks of a text between fences: plain facts. -/
namespace Go.Proofs.YtlojgpkajkedeaaGreatDoor.S
open Go

theorem nl_line (p l : List UInt8) (h : 10 ∉ p) : nl (p ++ 10 :: l) = p :: nl l := by
  induction p with
  | nil => simp [nl]
  | cons b p ih =>
    have hb : ¬ b = 10 := fun e => h (by simp [e])
    have hp : 10 ∉ p := fun e => h (by simp [e])
    simp only [List.cons_append, nl, if_neg hb, ih hp]
theorem nl_lines (L : List (List UInt8)) (l : List UInt8) (h : ∀ p ∈ L, 10 ∉ p) : nl ((L.map (fun p => p ++ [10])).flatten ++ l) = L ++ nl l := by
  induction L with
  | nil => simp
  | cons p L ih =>
    simp only [List.map_cons, List.flatten_cons, List.cons_append, List.append_assoc]
    rw [List.nil_append, nl_line p _ (h p (by simp)), ih (fun q hq => h q (by simp [hq]))]

/-- The longest run of a byte: so far, and the run at hand. -/
def most : Nat → Nat → List UInt8 → Nat
  | m, _, [] => m
  | m, n, b :: l => if b = 96 then most (max m (n + 1)) (n + 1) l else most (max m 0) 0 l
theorem most_ge (m n : Nat) (l : List UInt8) : m ≤ most m n l := by
  induction l generalizing m n with
  | nil => exact Nat.le_refl _
  | cons b l ih =>
    simp only [most]; split
    · exact Nat.le_trans (Nat.le_max_left _ _) (ih _ _)
    · exact Nat.le_trans (Nat.le_max_left _ _) (ih _ _)
theorem most_cnt (m n : Nat) (l : List UInt8) : (n + cnt 96 l ≤ most m n l ∨ cnt 96 l = 0) := by
  induction l generalizing m n with
  | nil => right; rfl
  | cons b l ih =>
    simp only [most, cnt]; split
    · left
      rcases ih (max m (n + 1)) (n + 1) with h | h
      · omega
      · have := most_ge (max m (n + 1)) (n + 1) l; omega
    · right; rfl
theorem most_drop (m n : Nat) (l : List UInt8) (k : Nat) : cnt 96 (l.drop k) ≤ most m n l := by
  induction l generalizing m n k with
  | nil => simp [cnt]
  | cons b l ih =>
    cases k with
    | zero =>
      rcases most_cnt m n (b :: l) with h | h
      · simp only [List.drop_zero]; omega
      · simp only [List.drop_zero]; omega
    | succ k =>
      simp only [List.drop_succ_cons, most]; split
      · exact ih _ _ k
      · exact ih _ _ k
theorem most_le (m n : Nat) (l : List UInt8) (h : n ≤ m) : most m n l ≤ max m (n + l.length) := by
  induction l generalizing m n with
  | nil => simp [most]; omega
  | cons b l ih =>
    simp only [most, List.length_cons]; split
    · have := ih (max m (n + 1)) (n + 1) (by omega); omega
    · have := ih (max m 0) 0 (by omega); omega
theorem cnt_prefix (c : UInt8) (p l : List UInt8) : cnt c p ≤ cnt c (p ++ l) := by
  induction p with
  | nil => simp [cnt]
  | cons b p ih => simp only [cnt, List.cons_append]; split <;> omega
/-- The lines of a text lie within it. -/
theorem nl_within (l : List UInt8) : ∀ p ∈ nl l, ∃ k t, l.drop k = p ++ t := by
  induction l with
  | nil => intro p hp; simp [nl] at hp; exact ⟨0, [], by simp [hp]⟩
  | cons b l ih =>
    intro p hp
    simp only [nl] at hp
    split at hp
    · simp at hp
      rcases hp with rfl | hp
      · exact ⟨0, b :: l, rfl⟩
      · obtain ⟨k, t, h⟩ := ih p hp; exact ⟨k + 1, t, by simpa using h⟩
    · cases hn : nl l with
      | nil => have := nl_length l; rw [hn] at this; simp at this
      | cons q r =>
        rw [hn] at hp; simp at hp
        rcases hp with rfl | hp
        · obtain ⟨t, ht⟩ : ∃ t, l = q ++ t := by
            clear ih
            induction l generalizing q r with
            | nil => simp [nl] at hn; exact ⟨[], by simp [hn.1]⟩
            | cons a l ih2 =>
              simp only [nl] at hn
              split at hn
              · simp at hn; exact ⟨a :: l, by simp [← hn.1]⟩
              · cases hm : nl l with
                | nil => have := nl_length l; rw [hm] at this; simp at this
                | cons q2 r2 =>
                  rw [hm] at hn; simp at hn
                  obtain ⟨t, ht⟩ := ih2 q2 r2 hm
                  exact ⟨t, by rw [← hn.1, ht]; simp⟩
          exact ⟨0, t, by simp [ht]⟩
        · obtain ⟨k, t, h⟩ := ih p (by rw [hn]; simp [hp]); exact ⟨k + 1, t, by simpa using h⟩
theorem nl_no (l : List UInt8) : ∀ p ∈ nl l, 10 ∉ p := by
  induction l with
  | nil => intro p hp; simp [nl] at hp; simp [hp]
  | cons b l ih =>
    intro p hp
    simp only [nl] at hp
    split at hp
    · simp at hp
      rcases hp with rfl | hp
      · simp
      · exact ih p hp
    · rename_i hb
      cases hn : nl l with
      | nil => have := nl_length l; rw [hn] at this; simp at this
      | cons q r =>
        rw [hn] at hp; simp at hp
        rcases hp with rfl | hp
        · have := ih q (by rw [hn]; simp)
          simp; exact ⟨fun e => hb e.symm, this⟩
        · exact ih p (by rw [hn]; simp [hp])
theorem trimSuffix_pre (l : List UInt8) : ∃ t, l = Lib.trimSuffix l [10] ++ t := by
  unfold Lib.trimSuffix
  split
  · exact ⟨l.drop (l.length - 1), by simp⟩
  · exact ⟨[], by simp⟩
theorem lines_no (l : List UInt8) : ∀ p ∈ lines l, 10 ∉ p := by
  unfold lines; split
  · simp
  · exact nl_no _
theorem lines_cnt (m : Nat) (l : List UInt8) (p : List UInt8) (hp : p ∈ lines l) (k : Nat) : cnt 96 (p.drop k) ≤ most m 0 l := by
  unfold lines at hp; split at hp
  · simp at hp
  · obtain ⟨j, t, h⟩ := nl_within _ p hp
    obtain ⟨u, hu⟩ := trimSuffix_pre l
    by_cases hk : k ≤ p.length
    · by_cases hj : j ≤ (Lib.trimSuffix l [10]).length
      · have h1 : l.drop (j + k) = p.drop k ++ (t ++ u) := by
          rw [hu, ← List.drop_drop, List.drop_append_of_le_length hj, h, List.append_assoc, List.drop_append_of_le_length hk]
        have h2 := most_drop m 0 l (j + k)
        rw [h1] at h2
        exact Nat.le_trans (cnt_prefix 96 (p.drop k) (t ++ u)) h2
      · rw [List.drop_eq_nil_of_le (by omega)] at h
        have : p = [] := by cases p with | nil => rfl | cons => simp at h
        subst this; simp [cnt]
    · rw [List.drop_eq_nil_of_le (by omega)]; simp [cnt]

/-- So many graves. -/
def gr (n : Nat) : List UInt8 := List.replicate n 96
theorem cnt_gr (n : Nat) (l : List UInt8) (h : l.head? ≠ some 96) : cnt 96 (gr n ++ l) = n := by
  induction n with
  | zero => cases l with
    | nil => rfl
    | cons b l => simp at h; simp [gr, cnt, h]
  | succ n ih => simp only [gr, List.replicate_succ, List.cons_append, cnt, if_true]; rw [← gr, ih]
theorem drop_gr (n : Nat) (l : List UInt8) : (gr n ++ l).drop n = l := by
  rw [List.drop_append_of_le_length (by simp [gr])]; simp [gr]
def soItIs : List UInt8 := [32, 32, 115, 111, 32, 105, 116, 32, 105, 115, 32]
def soInfo : List UInt8 := [115, 111, 32, 105, 116, 32, 105, 115]
theorem indent_gr (n : Nat) (h : 0 < n) (l : List UInt8) : indent (gr n ++ l) = 0 := by
  cases n with
  | zero => omega
  | succ n => simp [gr, List.replicate_succ, indent, cnt]
theorem shallow_gr (n : Nat) (h : 0 < n) (l : List UInt8) : shallow (gr n ++ l) = gr n ++ l := by
  unfold shallow; rw [indent_gr n h]; simp
theorem gr_cons (n : Nat) (h : 0 < n) (l : List UInt8) : ∃ t, gr n ++ l = 96 :: t := by
  cases n with
  | zero => omega
  | succ n => exact ⟨gr n ++ l, by simp [gr, List.replicate_succ]⟩
theorem fence_open (n : Nat) (h : 3 ≤ n) : fence (gr n ++ soItIs) = ⟨96, n, 0, soInfo, true⟩ := by
  obtain ⟨t, ht⟩ := gr_cons n (by omega) soItIs
  have hs := shallow_gr n (by omega) soItIs
  have hi : fenceInfo (gr n ++ soItIs) 96 = soInfo := by
    unfold fenceInfo; rw [cnt_gr n _ (by decide), drop_gr]; decide
  rw [fence_yes _ 96 t (by rw [hs, ht]) (Or.inl rfl), ← ht, cnt_gr n _ (by decide), indent_gr n (by omega), hi]
  have : fenceOk 96 n soInfo = true := by
    unfold fenceOk; rw [show decide (96 ∈ soInfo) = false from by decide]; simp [h]
  rw [this]
theorem not_blank_gr (n : Nat) (h : 0 < n) (l : List UInt8) : blank (gr n ++ l) = false := by
  unfold blank; rw [indent_gr n h]; simp [gr]; omega
theorem closed_gr (n : Nat) (h : 0 < n) : closedBy 96 n (gr n) = true := by
  have hs := shallow_gr n h []
  rw [List.append_nil] at hs
  have hc := cnt_gr n [] (by simp)
  rw [List.append_nil] at hc
  have hd := drop_gr n []
  rw [List.append_nil] at hd
  unfold closedBy; rw [hs, hc, hd]; simp [blank, indent, cnt]
theorem not_closed (n : Nat) (p : List UInt8) (h : ∀ k, cnt 96 (p.drop k) < n) : closedBy 96 n p = false := by
  have : cnt 96 (shallow p) < n := by
    unfold shallow; split
    · simp [cnt]; have := h 0; omega
    · exact h _
  unfold closedBy
  rw [decide_eq_false (by omega)]; rfl
theorem fencedSize_lines (n : Nat) (L : List (List UInt8)) (r : List (List UInt8)) (hn : 0 < n) (h : ∀ p ∈ L, ∀ k, cnt 96 (p.drop k) < n) : fencedSize 96 n (L ++ gr n :: r) = L.length := by
  induction L with
  | nil => simp only [List.nil_append, fencedSize, closed_gr n hn]; rfl
  | cons p L ih =>
    simp only [List.cons_append, fencedSize, not_closed n p (h p (by simp)), List.length_cons]
    rw [if_neg (by simp), ih (fun q hq => h q (by simp [hq]))]
def hashA : List UInt8 := [35, 32, 97]
theorem block_A (sub : List (List UInt8) → List Blk × Bool) (r : List (List UInt8)) : readBlock sub (hashA :: r) = (.mk 2 1 [] [97] false [], 1) := by
  have h1 : ¬ 4 ≤ indent hashA := by decide
  have h2 : isRule hashA = false := by decide
  have h3 : titleLevel hashA = 1 := by decide
  have h4 : titleContent hashA = [97] := by decide
  unfold readBlock; dsimp only; rw [if_neg h1, if_neg (by rw [h2]; simp), h3, if_pos (by decide), h4]; rfl
theorem block_F (sub : List (List UInt8) → List Blk × Bool) (n : Nat) (L : List (List UInt8)) (hn : 3 ≤ n) (h : ∀ p ∈ L, ∀ k, cnt 96 (p.drop k) < n) :
    readBlock sub ((gr n ++ soItIs) :: (L ++ [gr n, hashA])) = (.mk 3 0 soInfo ((L.map (fun p => p ++ [10])).flatten) false [], L.length + 2) := by
  have h1 : ¬ 4 ≤ indent (gr n ++ soItIs) := by rw [indent_gr n (by omega)]; omega
  obtain ⟨t, ht⟩ := gr_cons n (by omega) soItIs
  have hs := shallow_gr n (by omega) soItIs
  have h2 : isRule (gr n ++ soItIs) = false := isRule_no _ 96 t (by rw [hs, ht]) (by decide)
  have h3 : titleLevel (gr n ++ soItIs) = 0 := by
    unfold titleLevel; rw [hs, ht]; simp [cnt]
  have h4 : readFenced (fence (gr n ++ soItIs)) ((gr n ++ soItIs) :: (L ++ [gr n, hashA])) = (.mk 3 0 soInfo ((L.map (fun p => p ++ [10])).flatten) false [], L.length + 2) := by
    rw [fence_open n hn]; unfold readFenced; simp only [List.tail_cons, List.length_cons, List.length_append]
    rw [fencedSize_lines n L [hashA] (by omega) h]
    rw [List.take_left' rfl]
    have ht : fencedText 0 L = (L.map (fun p => p ++ [10])).flatten := by
      unfold fencedText; simp
    refine Prod.ext ?_ ?_
    · exact congrArg (fun x => Blk.mk 3 0 soInfo x false []) ht
    · show min _ _ = _; simp only [List.length_nil]; omega
  unfold readBlock
  dsimp only
  rw [if_neg h1, if_neg (by rw [h2]; simp), h3, if_neg (by omega), fence_open n hn]
  rw [fence_open n hn] at h4
  rw [if_pos rfl, h4]
theorem fenced_row (d n : Nat) (L : List (List UInt8)) (hn : 3 ≤ n) (h : ∀ p ∈ L, ∀ k, cnt 96 (p.drop k) < n) :
    (readRow (d + 1) ((gr n ++ soItIs) :: (L ++ [gr n, hashA]))).1 = [.mk 3 0 soInfo ((L.map (fun p => p ++ [10])).flatten) false [], .at_ ((L.length + 2 : Nat) : Int) 2 1 [] [97] false []] := by
  have hb : countBlank ((gr n ++ soItIs) :: (L ++ [gr n, hashA])) = 0 := by
    simp only [countBlank, not_blank_gr n (by omega)]; rfl
  have hA : countBlank [hashA] = 0 := by decide
  have hdr : ((gr n ++ soItIs) :: (L ++ [gr n, hashA])).drop (L.length + 2) = [hashA] := by
    rw [List.drop_succ_cons]
    rw [show L.length + 1 = L.length + 1 from rfl, ← List.drop_drop, List.drop_left' rfl]; rfl
  unfold readRow; rw [hb, List.drop_zero, List.length_cons]
  obtain ⟨f, hf⟩ : ∃ f, (L ++ [gr n, hashA]).length = f + 2 := ⟨L.length, by simp⟩
  rw [hf]
  unfold rowFrom
  rw [if_neg (by simp), block_F _ n L hn h]
  simp only [hdr, hA, Nat.add_zero]
  unfold rowFrom
  rw [if_neg (by simp), block_A]
  simp only [List.drop_succ_cons, List.drop_zero, countBlank, Nat.add_zero]
  unfold rowFrom
  have hfl : f = L.length := by rw [List.length_append] at hf; simp at hf; omega
  subst hfl
  simp [Blk.put]
/-- The text that the statement makes. -/
def fencedOf (n : Nat) (L : List (List UInt8)) : List UInt8 := gr n ++ soItIs ++ [10] ++ (L.map (fun p => p ++ [10])).flatten ++ gr n ++ [10] ++ hashA
theorem fenced_lines (n : Nat) (L : List (List UInt8)) (h : ∀ p ∈ L, 10 ∉ p) : lines (fencedOf n L) = (gr n ++ soItIs) :: (L ++ [gr n, hashA]) := by
  have h10 : (10 : UInt8) ∉ gr n := by simp [gr]
  have h11 : (10 : UInt8) ∉ gr n ++ soItIs := by simp [gr, soItIs]
  have e1 : fencedOf n L = (gr n ++ soItIs) ++ 10 :: ((L.map (fun p => p ++ [10])).flatten ++ (gr n ++ 10 :: hashA)) := by
    simp [fencedOf, List.append_assoc]
  have hne : fencedOf n L ≠ [] := by rw [e1]; simp
  have ht : Lib.trimSuffix (fencedOf n L) [10] = fencedOf n L := by
    unfold Lib.trimSuffix
    rw [if_neg]
    unfold Lib.hasSuffix
    have e2 : fencedOf n L = (gr n ++ soItIs ++ [10] ++ (L.map (fun p => p ++ [10])).flatten ++ gr n ++ [10] ++ [35, 32]) ++ [97] := by simp [fencedOf, hashA]
    rw [e2]
    simp only [List.isSuffixOf_iff_suffix]
    rintro ⟨t, ht⟩
    have := (List.append_inj' ht rfl).2
    simp at this
  unfold lines; rw [if_neg hne, ht, e1, nl_line _ _ h11, nl_lines L _ h, nl_line _ _ h10]
  rfl
theorem fenced_all (d n : Nat) (m : Nat) (l : List UInt8) (hm : 2 ≤ m) (hn : most m 0 l < n) :
    (readRow (d + 1) (lines (fencedOf n (lines l)))).1 = [.mk 3 0 soInfo (((lines l).map (fun p => p ++ [10])).flatten) false [], .at_ (((lines l).length + 2 : Nat) : Int) 2 1 [] [97] false []] := by
  have hge := most_ge m 0 l
  rw [fenced_lines n _ (lines_no l)]
  exact fenced_row d n _ (by omega) (fun p hp k => Nat.lt_of_le_of_lt (lines_cnt m l p hp k) hn)
/-- The other text: 1. --- -/
def oneRule : List UInt8 := [49, 46, 32, 45, 45, 45, 10]
theorem oneRule_row (d : Nat) : (readRow (d + 2) (lines oneRule)).1 = [.mk 6 1 [] [] false [.mk 7 0 [] [] false [.mk 4 0 [] [] false []]]] := by
  have h1 : lines oneRule = [[49, 46, 32, 45, 45, 45]] := by decide
  rw [h1]
  rfl

end Go.Proofs.YtlojgpkajkedeaaGreatDoor.S
