/- Markers, items, fences: plain functions. -/
import Derived.Test.YtpoaadfkalnjgaaGreatDoorStr
import Derived.Lib.Atoi
import Derived.Lib.AtoiAll
namespace Go.Proofs.YtpoaadfkalnjgaaGreatDoor.S
open Go

/-- Digits ahead; a marker's size; its number. -/
def isDig (c : UInt8) : Bool := decide (48 ≤ c.toNat) && decide (c.toNat ≤ 57)
def digs : List UInt8 → Nat
  | [] => 0
  | x :: r => if isDig x = true then digs r + 1 else 0
theorem digs_le (l : List UInt8) : digs l ≤ l.length := by
  induction l with
  | nil => simp [digs]
  | cons x r ih => simp only [digs]; split <;> simp <;> omega
theorem digs_at (l : List UInt8) (k : Nat) (h : ∀ j, j < k → (l[j]?.map isDig) = some true) (he : (l[k]?.map isDig) ≠ some true) : digs l = k := by
  induction l generalizing k with
  | nil => cases k with
    | zero => simp [digs]
    | succ k => have := h 0 (by omega); simp at this
  | cons x r ih => cases k with
    | zero => simp at he; simp [digs, he]
    | succ k =>
      have h0 := h 0 (by omega); simp at h0
      have := ih k (fun j hj => by have := h (j + 1) (by omega); simpa using this) (by simpa using he)
      simp [digs, this, h0]
theorem digs_all (l : List UInt8) : ∀ x ∈ l.take (digs l), isDig x = true := by
  induction l with
  | nil => simp
  | cons x r ih =>
    simp only [digs]; split
    · rename_i h; simp only [List.take_succ_cons, List.mem_cons]; rintro y (rfl | hy)
      · exact h
      · exact ih y hy
    · simp
def markEnds (d : Nat) : List UInt8 := if d = 0 then [45, 43, 42] else [46, 41]
def markerSize (l : List UInt8) : Nat :=
  if 6 < digs l then 0 else match l[digs l]? with
    | none => 0
    | some c => if c ∈ markEnds (digs l) then digs l + 1 else 0
theorem markerSize_long (l : List UInt8) (h : 6 < digs l) : markerSize l = 0 := by simp [markerSize, h]
theorem markerSize_end (l : List UInt8) (h : digs l = l.length) : markerSize l = 0 := by
  unfold markerSize; split
  · rfl
  · rw [List.getElem?_eq_none (by omega)]
theorem markerSize_no (l : List UInt8) (c : UInt8) (h : l[digs l]? = some c) (hc : c ∉ markEnds (digs l)) : markerSize l = 0 := by
  unfold markerSize; split
  · rfl
  · rw [h]; simp [hc]
theorem markerSize_yes (l : List UInt8) (c : UInt8) (h6 : ¬ 6 < digs l) (h : l[digs l]? = some c) (hc : c ∈ markEnds (digs l)) : markerSize l = digs l + 1 := by
  unfold markerSize; rw [if_neg h6, h]; simp [hc]
theorem markerSize_le (l : List UInt8) : markerSize l ≤ l.length := by
  unfold markerSize; split
  · omega
  · cases h : l[digs l]? with
    | none => simp
    | some c =>
      have := (List.getElem?_eq_some_iff.1 h).1
      simp only []; split <;> omega
theorem markerSize_eq (l : List UInt8) (h : markerSize l ≠ 0) : markerSize l = digs l + 1 ∧ digs l ≤ 6 := by
  unfold markerSize at h ⊢; split at h
  · exact absurd rfl h
  · rename_i h6; rw [if_neg h6]
    cases hc : l[digs l]? with
    | none => rw [hc] at h; exact absurd rfl h
    | some c => rw [hc] at h; simp only [] at h ⊢; split at h
                · rename_i hm; rw [if_pos hm]; exact ⟨rfl, by omega⟩
                · exact absurd rfl h
/-- The number that digits spell; -1: none. -/
def dec (l : List UInt8) : Nat := l.foldl (fun a b => a * 10 + (b.toNat - 48)) 0
def number (l : List UInt8) : Int := if l = [] then -1 else (dec l : Int)
theorem decFrom_dec (l : List UInt8) (a : Nat) (h : ∀ x ∈ l, isDig x = true) : Lib.decFrom a l = some (l.foldl (fun a b => a * 10 + (b.toNat - 48)) a) := by
  induction l generalizing a with
  | nil => rfl
  | cons x r ih =>
    have hx := h x (by simp)
    simp only [isDig, Bool.and_eq_true, decide_eq_true_eq] at hx
    simp only [Lib.decFrom, Lib.digitVal, if_pos hx, List.foldl_cons]
    exact ih _ (fun y hy => h y (by simp [hy]))
theorem atoi_dec (l : List UInt8) (hne : l ≠ []) (h : ∀ x ∈ l, isDig x = true) : Lib.atoi l = some (dec l : Int) := by
  cases l with
  | nil => exact absurd rfl hne
  | cons b r =>
    have hx := h b (by simp)
    simp only [isDig, Bool.and_eq_true, decide_eq_true_eq] at hx
    have h1 : (b == 45) = false := by rw [beq_eq_false_iff_ne]; intro e; rw [e] at hx; simp at hx
    have h2 : (b == 43) = false := by rw [beq_eq_false_iff_ne]; intro e; rw [e] at hx; simp at hx
    simp only [Lib.atoi]; rw [h1, h2, if_neg (by simp), if_neg (by simp)]
    unfold Lib.decNat; rw [if_neg (by simp), decFrom_dec _ _ h]; rfl
theorem dec_lt (l : List UInt8) (h : ∀ x ∈ l, isDig x = true) (a k : Nat) (ha : a < 10 ^ k) : l.foldl (fun a b => a * 10 + (b.toNat - 48)) a < 10 ^ (k + l.length) := by
  induction l generalizing a k with
  | nil => simpa using ha
  | cons x r ih =>
    have hx := h x (by simp)
    simp only [isDig, Bool.and_eq_true, decide_eq_true_eq] at hx
    simp only [List.foldl_cons, List.length_cons]
    have := ih (fun y hy => h y (by simp [hy])) (a * 10 + (x.toNat - 48)) (k + 1) (by rw [Nat.pow_succ]; omega)
    rw [show k + (r.length + 1) = k + 1 + r.length from by omega]; exact this

/-- Does a line that begins with so many of a byte, and the info behind them, open a fence? -/
def fenceOk (c : UInt8) (width : Nat) (info : List UInt8) : Bool := decide (3 ≤ width) && !(decide (c = 96) && decide (96 ∈ info))

structure Fence where
  mark : UInt8
  width : Nat
  ind : Nat
  info : List UInt8
  ok : Bool
def fenceInfo (l : List UInt8) (c : UInt8) : List UInt8 := Lib.trimB (l.drop (cnt c l)) 32
def fence (l : List UInt8) : Fence :=
  match shallow l with
  | [] => ⟨0, 0, 0, [], false⟩
  | c :: t => if c = 96 ∨ c = 126 then ⟨c, cnt c (c :: t), indent l, fenceInfo (c :: t) c, fenceOk c (cnt c (c :: t)) (fenceInfo (c :: t) c)⟩ else ⟨0, 0, 0, [], false⟩
theorem fence_nil (l : List UInt8) (h : shallow l = []) : fence l = ⟨0, 0, 0, [], false⟩ := by unfold fence; rw [h]
theorem fence_no (l : List UInt8) (c : UInt8) (t : List UInt8) (h : shallow l = c :: t) (h1 : ¬ c = 96) (h2 : ¬ c = 126) : fence l = ⟨0, 0, 0, [], false⟩ := by
  unfold fence; rw [h]; simp [h1, h2]
theorem fence_yes (l : List UInt8) (c : UInt8) (t : List UInt8) (h : shallow l = c :: t) (h1 : c = 96 ∨ c = 126) :
    fence l = ⟨c, cnt c (c :: t), indent l, fenceInfo (c :: t) c, fenceOk c (cnt c (c :: t)) (fenceInfo (c :: t) c)⟩ := by
  unfold fence; rw [h]; simp [h1]

/-- An item: is it one, its kind, number, margin, is it empty? -/
structure Mark where
  kind : UInt8
  number : Int
  margin : Nat
  empty : Bool
  ok : Bool
def item (l : List UInt8) : Mark :=
  if markerSize (shallow l) = 0 ∨ endsWord (shallow l) (markerSize (shallow l)) = false then ⟨0, 0, 0, false, false⟩
  else
    let n := markerSize (shallow l)
    let behind := (shallow l).drop n
    ⟨(shallow l).getD (n - 1) 0, number ((shallow l).take (n - 1)), indent l + n + (if blank behind = true ∨ 5 ≤ indent behind then 1 else indent behind), blank behind, true⟩
theorem item_no (l : List UInt8) (h : markerSize (shallow l) = 0 ∨ endsWord (shallow l) (markerSize (shallow l)) = false) : item l = ⟨0, 0, 0, false, false⟩ := by
  unfold item; rw [if_pos h]
theorem item_yes (l : List UInt8) (h : ¬ (markerSize (shallow l) = 0 ∨ endsWord (shallow l) (markerSize (shallow l)) = false)) :
    item l = ⟨(shallow l).getD (markerSize (shallow l) - 1) 0, number ((shallow l).take (markerSize (shallow l) - 1)), indent l + markerSize (shallow l) + (if blank ((shallow l).drop (markerSize (shallow l))) = true ∨ 5 ≤ indent ((shallow l).drop (markerSize (shallow l))) then 1 else indent ((shallow l).drop (markerSize (shallow l)))), blank ((shallow l).drop (markerSize (shallow l))), true⟩ := by
  unfold item; rw [if_neg h]

end Go.Proofs.YtpoaadfkalnjgaaGreatDoor.S
