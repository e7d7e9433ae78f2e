/- Plain functions on bytes: what the program's small functions on lines compute. Nothing of the dump here. -/
import Derived.Lib.Strings
import Derived.Lib.Bytealg
import Derived.Lib.TrimByte
namespace Go.Proofs.YtpoaadfkalnjgaaGreatDoor.S
open Go

/-- A string of a list of bytes, and back. -/
def B (l : List UInt8) : ByteArray := ⟨l.toArray⟩
theorem size_B (l : List UInt8) : (B l).size = l.length := by simp [B, ByteArray.size]
theorem data_B (l : List UInt8) : (B l).data.toList = l := by simp [B]
theorem data_B' (l : List UInt8) : (ByteArray.mk l.toArray).data.toList = l := by simp
theorem size_B' (l : List UInt8) : (ByteArray.mk l.toArray).size = l.length := by simp [ByteArray.size]
theorem B_data (s : ByteArray) : B s.data.toList = s := by cases s; simp [B]
theorem length_data (s : ByteArray) : s.data.toList.length = s.size := (Lib.size_eq s).symm

theorem get_data (s : ByteArray) (k : Nat) (h : k < s.size) : s.data.toList[k]? = some s[k] := by
  rw [List.getElem?_eq_getElem (by rw [length_data]; exact h)]; rfl

/-- How many of a byte a list begins with. -/
def cnt (c : UInt8) : List UInt8 → Nat
  | [] => 0
  | x :: r => if x = c then cnt c r + 1 else 0

theorem cnt_le (c : UInt8) (l : List UInt8) : cnt c l ≤ l.length := by
  induction l with
  | nil => simp [cnt]
  | cons x r ih => simp only [cnt]; split <;> simp <;> omega

theorem cnt_ge (c : UInt8) (l : List UInt8) (k : Nat) (h : ∀ j, j < k → l[j]? = some c) : k ≤ cnt c l := by
  induction l generalizing k with
  | nil => cases k with
    | zero => simp
    | succ k => have := h 0 (by omega); simp at this
  | cons x r ih => cases k with
    | zero => simp
    | succ k =>
      have h0 := h 0 (by omega); simp at h0; subst h0
      have := ih k (fun j hj => by have := h (j + 1) (by omega); simpa using this)
      simp [cnt]; omega

theorem cnt_at (c : UInt8) (l : List UInt8) (k : Nat) (h : ∀ j, j < k → l[j]? = some c) (he : l[k]? ≠ some c) : cnt c l = k := by
  induction l generalizing k with
  | nil => cases k with
    | zero => simp [cnt]
    | succ k => have := h 0 (by omega); simp at this
  | cons x r ih => cases k with
    | zero => simp at he; simp [cnt, he]
    | succ k =>
      have h0 := h 0 (by omega); simp at h0; subst h0
      have := ih k (fun j hj => by have := h (j + 1) (by omega); simpa using this) (by simpa using he)
      simp [cnt, this]

/-- A line's indent; is it blank; its rest, if it is not too deep for marks. -/
def indent (l : List UInt8) : Nat := cnt 32 l
def blank (l : List UInt8) : Bool := decide (indent l = l.length)
def shallow (l : List UInt8) : List UInt8 := if 4 ≤ indent l then [] else l.drop (indent l)
theorem indent_le (l : List UInt8) : indent l ≤ l.length := cnt_le 32 l
theorem shallow_deep (l : List UInt8) (h : 4 ≤ indent l) : shallow l = [] := by simp [shallow, h]
theorem shallow_flat (l : List UInt8) (h : ¬ 4 ≤ indent l) : shallow l = l.drop (indent l) := by simp [shallow, h]
theorem shallow_le (l : List UInt8) : (shallow l).length ≤ l.length := by
  unfold shallow; split <;> simp
theorem drop_data (s : ByteArray) (k : Nat) : (s.extract k s.size).data.toList = s.data.toList.drop k := by
  rw [Lib.extract_data]; rw [List.take_of_length_le]; rw [List.length_drop, length_data]; exact Nat.le_refl _
theorem take_data (s : ByteArray) (k : Nat) : (s.extract 0 k).data.toList = s.data.toList.take k := by
  rw [Lib.extract_data]; simp

/-- Does a space or nothing stand at a place? -/
def endsWord (l : List UInt8) (k : Nat) : Bool := decide (k = l.length) || decide (l[k]? = some 32)
def titleLevel (l : List UInt8) : Nat := if 6 < cnt 35 (shallow l) ∨ endsWord (shallow l) (cnt 35 (shallow l)) = false then 0 else cnt 35 (shallow l)
def rowOf (l : List UInt8) (c : UInt8) : Bool := decide (0 < cnt c l) && blank (l.drop (cnt c l))
def underlineLevel (l : List UInt8) : Nat := if rowOf (shallow l) 61 = true then 1 else if rowOf (shallow l) 45 = true then 2 else 0
def closedBy (c : UInt8) (width : Int) (l : List UInt8) : Bool := decide (width ≤ (cnt c (shallow l) : Int)) && blank ((shallow l).drop (cnt c (shallow l)))

/-- How many blank lines a row begins with. -/
def countBlank : List (List UInt8) → Nat
  | [] => 0
  | x :: r => if blank x = true then countBlank r + 1 else 0
theorem countBlank_le (l : List (List UInt8)) : countBlank l ≤ l.length := by
  induction l with
  | nil => simp [countBlank]
  | cons x r ih => simp only [countBlank]; split <;> simp <;> omega
theorem countBlank_at (l : List (List UInt8)) (k : Nat) (h : ∀ j, j < k → (l[j]?.map blank) = some true) (he : (l[k]?.map blank) ≠ some true) : countBlank l = k := by
  induction l generalizing k with
  | nil => cases k with
    | zero => simp [countBlank]
    | succ k => have := h 0 (by omega); simp at this
  | cons x r ih => cases k with
    | zero => simp at he; simp [countBlank, he]
    | succ k =>
      have h0 := h 0 (by omega); simp at h0
      have := ih k (fun j hj => by have := h (j + 1) (by omega); simpa using this) (by simpa using he)
      simp [countBlank, this, h0]

/-- How many lines belong to the first one by their indent: 'size' so far, 'at' lines are looked at. -/
def countDeepFrom (margin : Int) (size at_ : Nat) : List (List UInt8) → Nat
  | [] => size
  | x :: r => if blank x = true then countDeepFrom margin size (at_ + 1) r
    else if (indent x : Int) < margin then size else countDeepFrom margin (at_ + 1) (at_ + 1) r
def countDeep (margin : Int) (l : List (List UInt8)) : Nat := countDeepFrom margin 1 1 l.tail

theorem countDeepFrom_end (m : Int) (z k : Nat) (l : List (List UInt8)) (h : l.length ≤ k) : countDeepFrom m z k (l.drop k) = z := by
  rw [List.drop_eq_nil_of_le h]; rfl
theorem countDeepFrom_step (m : Int) (z k : Nat) (l : List (List UInt8)) (x : List UInt8) (h : l[k]? = some x) :
    countDeepFrom m z k (l.drop k) = if blank x = true then countDeepFrom m z (k + 1) (l.drop (k + 1)) else if (indent x : Int) < m then z else countDeepFrom m (k + 1) (k + 1) (l.drop (k + 1)) := by
  obtain ⟨hk, hx⟩ := List.getElem?_eq_some_iff.1 h
  rw [List.drop_eq_getElem_cons hk, hx]; rfl
theorem countDeepFrom_le (m : Int) (z k : Nat) (l : List (List UInt8)) (h : z ≤ k) : countDeepFrom m z k l ≤ k + l.length := by
  induction l generalizing z k with
  | nil => simp [countDeepFrom]; exact h
  | cons x r ih =>
    simp only [countDeepFrom, List.length_cons]
    split
    · have := ih z (k + 1) (by omega); omega
    · split
      · omega
      · have := ih (k + 1) (k + 1) (by omega); omega
theorem countDeepFrom_ge (m : Int) (z k : Nat) (l : List (List UInt8)) (h : z ≤ k) : z ≤ countDeepFrom m z k l := by
  induction l generalizing z k with
  | nil => simp [countDeepFrom]
  | cons x r ih =>
    simp only [countDeepFrom]
    split
    · exact ih z (k + 1) (by omega)
    · split
      · omega
      · have := ih (k + 1) (k + 1) (by omega); omega
theorem countDeep_pos (m : Int) (l : List (List UInt8)) : 1 ≤ countDeep m l := countDeepFrom_ge m 1 1 _ (by omega)
theorem countDeep_le (m : Int) (l : List (List UInt8)) (h : 0 < l.length) : countDeep m l ≤ l.length := by
  have := countDeepFrom_le m 1 1 l.tail (by omega); rw [List.length_tail] at this; unfold countDeep; omega

def isRule (l : List UInt8) : Bool :=
  match shallow l with
  | [] => false
  | c :: r => (decide (c = 42) || decide (c = 45) || decide (c = 95)) && (decide (3 ≤ (c :: r).count c) && decide ((c :: r).count c + (c :: r).count 32 = (c :: r).length))
def isQuoted (l : List UInt8) : Bool := Lib.hasPrefix (shallow l) [62]
def unquoted (l : List UInt8) : List UInt8 := Lib.trimPrefix ((shallow l).drop 1) [32]

theorem indexByte_neg (l : List UInt8) (c : UInt8) : Lib.indexByte l c < 0 ↔ c ∉ l := by
  induction l with
  | nil => simp [Lib.indexByte]
  | cons b r ih =>
    have hge := Lib.indexByte_ge r c
    unfold Lib.indexByte
    by_cases hb : b = c
    · simp [hb]
    · have hb' : (b == c) = false := by simp [hb]
      rw [hb', if_neg (by simp)]
      by_cases hm : Lib.indexByte r c = -1
      · rw [if_pos (by simp [hm])]
        have : c ∉ r := ih.1 (by omega)
        simp [this, Ne.symm hb]
      · rw [if_neg (by simp [hm])]
        have : ¬ c ∉ r := fun h => by have := ih.2 h; omega
        simp at this
        simp [this]; omega
theorem extract_one (r : ByteArray) (h : 0 < r.size) : r.extract 0 1 = ⟨#[r[0]]⟩ := by
  rw [← B_data (r.extract 0 1), take_data]
  have : r.data.toList.take 1 = [r[0]] := by
    have hg := get_data r 0 h
    cases hl : r.data.toList with
    | nil => rw [hl] at hg; simp at hg
    | cons x t => rw [hl] at hg; simp at hg; simp [hg]
  rw [this]; rfl
theorem ne_nil_of_pos (r : ByteArray) (h : 0 < r.size) : ¬ r.toList = [] := by
  rw [Lib.toList_data]; intro he; have := length_data r; rw [he] at this; simp at this; omega
theorem isEmpty_of_pos (r : ByteArray) (h : 0 < r.size) : r.toList.isEmpty = false := by
  have := ne_nil_of_pos r h; simpa using this
theorem nil_of_zero (r : ByteArray) (h : r.size = 0) : r.toList = [] := by
  rw [Lib.toList_data]; apply List.eq_nil_of_length_eq_zero; rw [length_data]; exact h
theorem data_nil_of_zero (r : ByteArray) (h : r.size = 0) : r.data.toList = [] := by
  apply List.eq_nil_of_length_eq_zero; rw [length_data]; exact h
theorem data_cons (r : ByteArray) (h : 0 < r.size) : r.data.toList = r[0] :: r.data.toList.tail := by
  have hg := get_data r 0 h
  cases hl : r.data.toList with
  | nil => rw [hl] at hg; simp at hg
  | cons x t => rw [hl] at hg; simp at hg; simp [hg]
theorem count_two (l : List UInt8) (c d : UInt8) (h : c ≠ d) : l.count c + l.count d ≤ l.length := by
  induction l with
  | nil => simp
  | cons x r ih =>
    simp only [List.count_cons, List.length_cons]
    by_cases h1 : x = c
    · have h2 : ¬ x = d := fun e => h (h1.symm.trans e)
      simp [h1, h]; omega
    · simp [h1]; split <;> omega
theorem isRule_nil (l : List UInt8) (h : shallow l = []) : isRule l = false := by unfold isRule; rw [h]
theorem isRule_no (l : List UInt8) (c : UInt8) (t : List UInt8) (h : shallow l = c :: t) (hc : c ∉ [(42 : UInt8), 45, 95]) : isRule l = false := by
  unfold isRule; rw [h]; simp at hc; simp [hc]
theorem isRule_yes (l : List UInt8) (c : UInt8) (t : List UInt8) (h : shallow l = c :: t) (hc : c ∈ [(42 : UInt8), 45, 95]) :
    isRule l = (decide (3 ≤ (shallow l).count c) && decide ((shallow l).count c + (shallow l).count 32 = (shallow l).length)) := by
  have : (decide (c = 42) || decide (c = 45) || decide (c = 95)) = true := by
    simp at hc; rcases hc with h | h | h <;> simp [h]
  unfold isRule; rw [h]; show ((_ && _) = _); rw [this, Bool.true_and]

def titleOpen (l : List UInt8) : List UInt8 := Lib.trimB ((shallow l).drop (cnt 35 (shallow l))) 32
def titleContent (l : List UInt8) : List UInt8 :=
  if (Lib.trimRightB (titleOpen l) 35).isEmpty = true ∨ Lib.hasSuffix (Lib.trimRightB (titleOpen l) 35) [32] = true then Lib.trimRightB (Lib.trimRightB (titleOpen l) 35) 32 else titleOpen l
theorem trimLeftB_le (l : List UInt8) (c : UInt8) : (Lib.trimLeftB l c).length ≤ l.length := by
  unfold Lib.trimLeftB; exact (List.dropWhile_sublist _).length_le
theorem trimRightB_le (l : List UInt8) (c : UInt8) : (Lib.trimRightB l c).length ≤ l.length := by
  unfold Lib.trimRightB; rw [List.length_reverse]; have := (List.dropWhile_sublist (fun x => x == c) (l := l.reverse)).length_le; rw [List.length_reverse] at this; exact this
theorem trimB_le (l : List UInt8) (c : UInt8) : (Lib.trimB l c).length ≤ l.length := Nat.le_trans (trimLeftB_le _ _) (trimRightB_le _ _)

end Go.Proofs.YtpoaadfkalnjgaaGreatDoor.S
