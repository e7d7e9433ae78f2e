import Derived.Test.YtpoaadfkalnjgaaGreatDoorW2
import Derived.Test.YtpoaadfkalnjgaaGreatDoorShelf
import Derived.Test.YtpoaadfkalnjgaaGreatDoorShelfB
import Derived.RegionTactic
import Derived.ChangeAlike
namespace Go.Proofs.YtpoaadfkalnjgaaGreatDoor
open Go.RowKit

theorem indexByte_any (s : ByteArray) (c : UInt8) (w : World) :
    Calls Tryz.prog 116 #[.string s, .int .u8 (c.toNat : Int)] w fun e w' => ∃ x : Int, e = .returned (.int .i64 x) ∧ Hid (x < 0 ↔ c ∉ s.data.toList) ∧ w' = w := by
  refine (Tryz.strings_IndexByte s (c.toNat : Int) w).mono ?_
  rintro e w' ⟨rfl, rfl⟩
  exact ⟨_, rfl, hid (by rw [S.indexByte_neg]; simp), rfl⟩
theorem count_any (s : ByteArray) (c : UInt8) (w : World) :
    Calls Tryz.prog 117 #[.string s, .string ⟨#[c]⟩] w fun e w' => ∃ x : Nat, e = .returned (.int .i64 (x : Int)) ∧ Hid (x = s.data.toList.count c) ∧ x ≤ s.size ∧ w' = w := by
  refine (Tryz.strings_Count_one s c w).mono ?_
  rintro e w' ⟨rfl, rfl⟩
  exact ⟨_, rfl, hid rfl, by rw [← S.length_data]; exact List.count_le_length, rfl⟩

set_option maxHeartbeats 400000 in
theorem isRule_any (s : ByteArray) (w : World) (hs : s.size ≤ maxLen) :
    Calls Tryz.prog 65 #[.string s] w fun e w' => e = .returned (.bool (S.isRule s.data.toList)) ∧ w' = w := by
  unfold maxLen at hs
  go_enter Tryz.func65, Tryz.ntmps65
  go_wp2_with fail
  refine (shallowRest_any _ _ (by unfold maxLen; omega)).mono ?_
  rintro e w' ⟨r, rfl, hr, hle, rfl⟩
  by_cases hz : r.size = 0
  · have he := S.nil_of_zero r hz
    have hf : Hid (S.isRule s.data.toList = false) := hid (S.isRule_nil _ (by rw [← hr.out]; exact S.data_nil_of_zero r hz))
    clear hz
    go_wp2
    go_ret
    exact ⟨ret_bool hf.out.symm, rfl⟩
  · have hpos : 0 < r.size := by omega
    have hne := S.isEmpty_of_pos r hpos
    clear hz
    go_wp2_with fail
    refine (indexByte_any _ r[0] _).mono ?_
    rintro e w'' ⟨x, rfl, hx, rfl⟩
    by_cases hm : r[0] ∈ [(42 : UInt8), 45, 95]
    · have hx0 : 0 ≤ x := by have := hx.out; simp only [List.mem_cons] at hm ⊢; by_cases hn : x < 0; exact absurd (by simpa using hm) (by simpa using this.1 hn); omega
      have hf : Hid (S.isRule s.data.toList = (decide (3 ≤ r.data.toList.count r[0]) && decide (r.data.toList.count r[0] + r.data.toList.count 32 = r.size))) := hid (by
        rw [S.isRule_yes _ _ _ (by rw [← hr.out]; exact S.data_cons r hpos) hm, ← hr.out, S.length_data])
      have hc32 : Hid (r.data.toList.count r[0] + r.data.toList.count 32 ≤ r.size) := hid (by
        rw [← S.length_data]; exact S.count_two _ _ _ (by intro h; rw [h] at hm; simp at hm))
      clear hm
      go_wp2_with fail
      rw [S.extract_one r hpos]
      refine (count_any _ _ _).mono ?_
      rintro e w'' ⟨n, rfl, hn, hnl, rfl⟩
      by_cases h3 : 3 ≤ n
      · go_wp2_with fail
        refine (count_any _ 32 _).mono ?_
        rintro e w'' ⟨m, rfl, hm, hml, rfl⟩
        have hnm : n + m ≤ r.size := by rw [hn.out, hm.out]; exact hc32.out
        go_wp2
        go_ret
        refine ⟨ret_bool ?_, rfl⟩
        rw [hf.out, ← hn.out, ← hm.out, decide_eq_true h3, Bool.true_and, Bool.eq_iff_iff, beq_iff_eq, decide_eq_true_iff]
        omega
      · have hf2 : Hid (S.isRule s.data.toList = false) := hid (by rw [hf.out, ← hn.out, decide_eq_false h3, Bool.false_and])
        go_wp2
        go_ret
        exact ⟨ret_bool hf2.out.symm, rfl⟩
    · have hx0 : x < 0 := hx.out.2 (by simpa using hm)
      have hf : Hid (S.isRule s.data.toList = false) := hid (S.isRule_no _ _ _ (by rw [← hr.out]; exact S.data_cons r hpos) hm)
      clear hm
      go_wp2
      go_ret
      exact ⟨ret_bool hf.out.symm, rfl⟩

set_option maxHeartbeats 400000 in
theorem isQuoted_any (s : ByteArray) (w : World) (hs : s.size ≤ maxLen) :
    Calls Tryz.prog 70 #[.string s] w fun e w' => e = .returned (.bool (S.isQuoted s.data.toList)) ∧ w' = w := by
  go_enter Tryz.func70, Tryz.ntmps70
  go_wp2_with fail
  refine (shallowRest_any _ _ hs).mono ?_
  rintro e w' ⟨r, rfl, hr, hle, rfl⟩
  have hf : Hid (S.isQuoted s.data.toList = Lib.hasPrefix r.data.toList [62]) := hid (by unfold S.isQuoted; rw [hr.out])
  go_wp2_with fail
  refine (Tryz.strings_HasPrefix _ _ _).mono ?_
  rintro e w' ⟨rfl, rfl⟩
  go_wp2
  go_ret
  exact ⟨ret_bool (by rw [hf.out]), rfl⟩

set_option maxHeartbeats 400000 in
theorem unquoted_any (s : ByteArray) (w : World) (hs : s.size ≤ maxLen) (hq : S.shallow s.data.toList ≠ []) :
    Calls Tryz.prog 124 #[.string s] w fun e w' => ∃ r : ByteArray, e = .returned (.string r) ∧ Hid (r.data.toList = S.unquoted s.data.toList) ∧ r.size ≤ s.size ∧ w' = w := by
  go_enter Tryz.func124, Tryz.ntmps124
  go_wp2_with fail
  refine (shallowRest_any _ _ hs).mono ?_
  rintro e w' ⟨r, rfl, hr, hle, rfl⟩
  have hpos : 1 ≤ r.size := by
    have : r.data.toList ≠ [] := by rw [hr.out]; exact hq
    rw [← S.length_data]; exact List.length_pos_iff.2 this
  have hf : Hid (S.unquoted s.data.toList = Lib.trimPrefix (r.data.toList.drop 1) [32]) := hid (by unfold S.unquoted; rw [hr.out])
  have hsz : Hid ((S.unquoted s.data.toList).length ≤ s.size) := hid (by
    rw [hf.out]; have := Lib.trimPrefix_le (r.data.toList.drop 1) [32]; rw [List.length_drop, S.length_data] at this; omega)
  clear hq
  go_wp2_with fail
  refine (Tryz.strings_TrimPrefix _ _ _).mono ?_
  rintro e w' ⟨rfl, rfl⟩
  go_wp2
  go_ret
  refine ⟨_, rfl, hid ?_, ?_, rfl⟩
  · rw [hf.out, S.data_B', List.take_of_length_le (by rw [List.length_tail, S.length_data]; omega), List.drop_one]
  · rw [S.size_B', List.take_of_length_le (by rw [List.length_tail, S.length_data]; omega), ← List.drop_one, ← hf.out]; exact hsz.out

theorem trimRight_any (s : ByteArray) (c : UInt8) (hc : c.toNat < 128) (w : World) (hs : s.size ≤ maxLen) :
    Calls Tryz.prog 120 #[.string s, .string ⟨#[c]⟩] w fun e w' => ∃ r : ByteArray, e = .returned (.string r) ∧ Hid (r.data.toList = Lib.trimRightB s.data.toList c) ∧ r.size ≤ s.size ∧ w' = w := by
  refine (Tryz.strings_TrimRight_one s c hc w (by unfold maxLen at hs; omega)).mono ?_
  rintro e w' ⟨rfl, rfl⟩
  exact ⟨_, rfl, hid (S.data_B' _), by rw [S.size_B', ← S.length_data]; exact S.trimRightB_le _ _, rfl⟩
theorem trim_any (s : ByteArray) (c : UInt8) (hc : c.toNat < 128) (w : World) (hs : s.size ≤ maxLen) :
    Calls Tryz.prog 119 #[.string s, .string ⟨#[c]⟩] w fun e w' => ∃ r : ByteArray, e = .returned (.string r) ∧ Hid (r.data.toList = Lib.trimB s.data.toList c) ∧ r.size ≤ s.size ∧ Below w.heap.size w w' := by
  refine (Tryz.strings_Trim_one s c hc w (by unfold maxLen at hs; omega)).mono ?_
  rintro e w' ⟨rfl, hw⟩
  refine ⟨_, rfl, hid (S.data_B' _), by rw [S.size_B', ← S.length_data]; exact S.trimB_le _ _, ?_⟩
  rcases hw with rfl | rfl
  · exact Below.refl _ _
  · exact (Below.refl _ _).drew

set_option maxHeartbeats 400000 in
theorem titleContent_any (s : ByteArray) (w : World) (hs : s.size ≤ maxLen) :
    Calls Tryz.prog 67 #[.string s] w fun e w' => ∃ r : ByteArray, e = .returned (.string r) ∧ Hid (r.data.toList = S.titleContent s.data.toList) ∧ r.size ≤ s.size ∧ Below w.heap.size w w' := by
  have hs' := hs
  unfold maxLen at hs
  go_enter Tryz.func67, Tryz.ntmps67
  go_wp2_with fail
  refine (shallowRest_any _ _ hs').mono ?_
  rintro e w' ⟨r, rfl, hr, hle, rfl⟩
  have hc : S.cnt 35 r.data.toList ≤ r.size := by have := S.cnt_le 35 r.data.toList; rw [S.length_data] at this; exact this
  go_wp2_with fail
  refine (countFirst_any r 35 _ (Nat.le_trans hle hs')).mono ?_
  rintro e w'' ⟨rfl, rfl⟩
  go_wp2_with fail
  refine (trim_any _ 32 (by decide) _ (by rw [ByteArray.size_extract]; exact Nat.le_trans (by omega) hs')).mono ?_
  rintro e w1 ⟨c, rfl, hcd, hcl, hb⟩
  have hcl2 : c.size ≤ s.size := by rw [ByteArray.size_extract] at hcl; omega
  have hO : Hid (c.data.toList = S.titleOpen s.data.toList) := hid (by rw [hcd.out, S.drop_data]; unfold S.titleOpen; rw [hr.out])
  clear hcl hcd
  go_wp2_with fail
  refine (trimRight_any c 35 (by decide) _ (Nat.le_trans hcl2 hs')).mono ?_
  rintro e w'' ⟨o, rfl, hod, hol, rfl⟩
  have hT : Hid (S.titleContent s.data.toList = if o.data.toList.isEmpty = true ∨ Lib.hasSuffix o.data.toList [32] = true then Lib.trimRightB o.data.toList 32 else c.data.toList) := hid (by
    unfold S.titleContent; rw [← hO.out, ← hod.out])
  by_cases hz : o.size = 0
  · have he := S.nil_of_zero o hz
    have hf : Hid (S.titleContent s.data.toList = Lib.trimRightB o.data.toList 32) := hid (by rw [hT.out, if_pos (.inl (by rw [S.data_nil_of_zero o hz]; rfl))])
    clear hz
    go_wp2_with (go_at_call 120; refine (trimRight_any o 32 (by decide) _ (Nat.le_trans (Nat.le_trans hol hcl2) hs')).mono ?_; rintro e w'' ⟨q, rfl, hq, hql, rfl⟩)
    go_ret
    exact ⟨_, rfl, hid (by rw [hf.out, hq.out]), by omega, hb⟩
  · have hpos : 0 < o.size := by omega
    have hne := S.isEmpty_of_pos o hpos
    have hne' := S.ne_nil_of_pos o hpos
    clear hz
    go_wp2_with fail
    refine (Tryz.strings_HasSuffix _ _ _ (by omega)).mono ?_
    rintro e w'' ⟨rfl, rfl⟩
    generalize hx : Lib.hasSuffix o.data.toList _ = x
    cases x
    · have hf : Hid (S.titleContent s.data.toList = c.data.toList) := hid (by
        rw [hT.out, if_neg]; rintro (h | h)
        · rw [← Lib.toList_data, hne] at h; simp at h
        · rw [show ([32] : List UInt8) = (ByteArray.mk #[32]).data.toList from rfl, hx] at h; simp at h)
      go_wp2
      go_ret
      exact ⟨_, rfl, hid hf.out.symm, hcl2, hb⟩
    · have hf : Hid (S.titleContent s.data.toList = Lib.trimRightB o.data.toList 32) := hid (by rw [hT.out, if_pos (.inr hx)])
      go_wp2_with (go_at_call 120; refine (trimRight_any o 32 (by decide) _ (Nat.le_trans (Nat.le_trans hol hcl2) hs')).mono ?_; rintro e w'' ⟨q, rfl, hq, hql, rfl⟩)
      go_ret
      exact ⟨_, rfl, hid (by rw [hf.out, hq.out]), by omega, hb⟩

set_option maxHeartbeats 400000 in
theorem closedBy_any (c : UInt8) (width ind : Int) (info s : ByteArray) (w : World) (hs : s.size ≤ maxLen) :
    Calls Tryz.prog 123 #[.agg #[.int .u8 (c.toNat : Int), .int .i64 width, .int .i64 ind, .string info], .string s] w fun e w' => e = .returned (.bool (S.closedBy c width s.data.toList)) ∧ Below w.heap.size w w' := by
  have hs' := hs
  unfold maxLen at hs
  go_enter Tryz.func123, Tryz.ntmps123
  go_wp2_with fail
  refine (shallowRest_any _ _ hs').mono ?_
  rintro e w' ⟨r, rfl, hr, hle, rfl⟩
  have hc : S.cnt c r.data.toList ≤ r.size := by have := S.cnt_le c r.data.toList; rw [S.length_data] at this; exact this
  have hT : Hid (S.closedBy c width s.data.toList = (decide (width ≤ (S.cnt c r.data.toList : Int)) && S.blank (r.data.toList.drop (S.cnt c r.data.toList)))) := hid (by unfold S.closedBy; rw [hr.out])
  go_wp2_with fail
  refine (countFirst_any r c _ (Nat.le_trans hle hs')).mono ?_
  rintro e w'' ⟨rfl, rfl⟩
  by_cases h0 : width ≤ (S.cnt c r.data.toList : Int)
  · go_wp2_with fail
    refine (isBlank_any _ _ (by rw [ByteArray.size_extract]; exact Nat.le_trans (by omega) hs')).mono ?_
    rintro e w'' ⟨rfl, rfl⟩
    go_wp2
    go_ret
    exact ⟨ret_bool (by rw [hT.out, decide_eq_true h0, Bool.true_and, List.take_of_length_le (by rw [List.length_drop, S.length_data]; omega)]), (Below.refl _ _).alloc (Nat.le_refl _) _⟩
  · have hf : Hid (S.closedBy c width s.data.toList = false) := hid (by rw [hT.out, decide_eq_false h0, Bool.false_and])
    go_wp2
    go_ret
    exact ⟨ret_bool hf.out.symm, (Below.refl _ _).alloc (Nat.le_refl _) _⟩

end Go.Proofs.YtpoaadfkalnjgaaGreatDoor
