import Derived.Test.YtpoaadfkalnjgaaGreatDoorW4
namespace Go.Proofs.YtpoaadfkalnjgaaGreatDoor
open Go.RowKit

set_option maxHeartbeats 400000 in
theorem markerNumber_any (s : ByteArray) (w : World) (hpos : 1 ≤ s.size) (h6 : s.size ≤ 7) (hd : ∀ x ∈ s.data.toList.take (s.size - 1), S.isDig x = true) (henv : Env w) :
    Calls Tryz.prog 126 #[.string s] w fun e w' => e = .returned (.int .i64 (S.number (s.data.toList.take (s.size - 1)))) ∧ Below w.heap.size w w' := by
  obtain ⟨k, hk⟩ : ∃ k, s.size = k + 1 := ⟨s.size - 1, by omega⟩
  have hlen : (s.extract 0 k).size = k := by rw [ByteArray.size_extract]; omega
  have htk : Hid ((s.extract 0 k).data.toList = s.data.toList.take (s.size - 1)) := hid (by rw [S.take_data, hk]; rfl)
  have hsub : ((s.size : Int) - 1) = (k : Int) := by omega
  by_cases h0 : k = 0
  · have hN : Hid (S.number (s.data.toList.take (s.size - 1)) = -1) := hid (by rw [hk, h0]; rfl)
    obtain ⟨⟨ev, hev1, hev2⟩, _⟩ := henv
    subst h0
    have hA : Lib.atoiAll (s.extract 0 0).data.toList = .«syntax» := by rw [S.take_data]; rfl
    have hAH := hid hA
    clear hA hd hlen htk
    have hsz : s.size = 1 := by omega
    go_enter Tryz.func126, Tryz.ntmps126
    go_wp2_with fail
    refine (Tryz.strconv_Atoi_syntax ByteArray.empty (by decide) rfl ev _ hev1 hev2).mono ?_
    rintro e w1 ⟨N, rfl, hN1, hN2, hb⟩
    go_wp2
    go_ret
    exact ⟨ret_int hN.out.symm, hb⟩
  · have hne : (s.data.toList.take (s.size - 1)) ≠ [] := by
      intro h; have := congrArg List.length h; rw [List.length_take, S.length_data] at this; simp at this; omega
    have hN : Hid (S.number (s.data.toList.take (s.size - 1)) = (S.dec (s.data.toList.take (s.size - 1)) : Int)) := hid (by unfold S.number; rw [if_neg hne])
    have hA : Hid (Lib.atoi (s.extract 0 k).data.toList = some (S.dec (s.data.toList.take (s.size - 1)) : Int)) := hid (by
      rw [htk.out]; exact S.atoi_dec _ hne hd)
    have hkH := hid hk
    have hks : k < s.size := by omega
    clear hk hd hne h0
    go_enter Tryz.func126, Tryz.ntmps126
    go_wp2_with fail
    refine (Tryz.strconv_Atoi _ _ (by rw [ByteArray.size_extract]; omega) hA.out _).mono ?_
    rintro e w1 ⟨rfl, t, rfl⟩
    have hb := Lib.bytesWorld_below w 5 t
    go_wp2
    go_ret
    exact ⟨ret_int hN.out.symm, hb⟩

set_option maxHeartbeats 400000 in
theorem breaksParagraph_any (kind number margin : Int) (empty : Bool) (w : World) :
    Calls Tryz.prog 166 #[.agg #[.int .u8 kind, .int .i64 number, .int .i64 margin, .bool empty]] w fun e w' => e = .returned (.bool (!empty && (number == -1 || number == 1))) ∧ Below w.heap.size w w' := by
  cases empty
  · by_cases h1 : number = -1
    · have h1' : (number == -1) = true := by simp [h1]
      have hf : Hid ((!false && (number == -1 || number == 1)) = true) := hid (by simp [h1])
      clear h1
      go_enter Tryz.func166, Tryz.ntmps166
      go_wp2
      go_ret
      exact ⟨ret_bool hf.out.symm, (Below.refl _ _).alloc (Nat.le_refl _) _⟩
    · have h1' : (number == -1) = false := by simp [h1]
      have hf : Hid ((number == 1) = (!false && (number == -1 || number == 1))) := hid (by simp [h1])
      clear h1
      go_enter Tryz.func166, Tryz.ntmps166
      go_wp2
      go_ret
      exact ⟨ret_bool hf.out, (Below.refl _ _).alloc (Nat.le_refl _) _⟩
  · have hf : Hid ((!true && (number == -1 || number == 1)) = false) := hid (by simp)
    go_enter Tryz.func166, Tryz.ntmps166
    go_wp2
    go_ret
    exact ⟨ret_bool hf.out.symm, (Below.refl _ _).alloc (Nat.le_refl _) _⟩

set_option maxHeartbeats 1000000 in
theorem fenceOf_no (s : ByteArray) (w : World) (hs : s.size ≤ maxLen) (hn : ∀ c t, S.shallow s.data.toList = c :: t → c ≠ 96 ∧ c ≠ 126) :
    Calls Tryz.prog 68 #[.string s] w fun e w' => e = .returned (.tuple #[.agg #[.int .u8 0, .int .i64 0, .int .i64 0, .string ⟨#[]⟩], .bool false]) ∧ Below w.heap.size w w' := by
  go_enter Tryz.func68, Tryz.ntmps68
  go_wp2_with fail
  refine (shallowRest_any _ _ hs).mono ?_
  rintro e w' ⟨r, rfl, hr, hle, rfl⟩
  by_cases hz : r.size = 0
  · have he := S.nil_of_zero r hz
    clear hz hn
    go_wp2
    exact bodyPost_ret (v := .tuple #[.agg #[.int .u8 0, .int .i64 0, .int .i64 0, .string ⟨#[]⟩], .bool false]) (by simp [results, Tryz.results68, go_sem]) rfl ⟨rfl, (Below.refl _ _).alloc (Nat.le_refl _) _⟩
  · have hpos : 0 < r.size := by omega
    have hne := S.isEmpty_of_pos r hpos
    have hc := hn r[0] _ (by rw [← hr.out]; exact S.data_cons r hpos)
    have h1 : ((r[0].toNat : Int) != 96) = true := by rw [bne_iff_ne]; intro h; exact hc.1 (UInt8.toNat_inj.1 (by simp; omega))
    have h2 : ((r[0].toNat : Int) != 126) = true := by rw [bne_iff_ne]; intro h; exact hc.2 (UInt8.toNat_inj.1 (by simp; omega))
    clear hz hn hc
    go_wp2
    exact bodyPost_ret (v := .tuple #[.agg #[.int .u8 0, .int .i64 0, .int .i64 0, .string ⟨#[]⟩], .bool false]) (by simp [results, Tryz.results68, go_sem]) rfl ⟨rfl, (Below.refl _ _).alloc (Nat.le_refl _) _⟩

end Go.Proofs.YtpoaadfkalnjgaaGreatDoor
