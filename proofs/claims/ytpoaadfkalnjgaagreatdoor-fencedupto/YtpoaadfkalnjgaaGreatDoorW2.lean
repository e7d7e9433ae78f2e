import Derived.Test.YtpoaadfkalnjgaaGreatDoorW1
namespace Go.Proofs.YtpoaadfkalnjgaaGreatDoor
open Go.RowKit

/-- A row of strings in memory, from a cell on. -/
def Row (w : World) (b o : Nat) (ss : List ByteArray) : Prop := ∀ i s, ss[i]? = some s → w.cell? ⟨b, o + i, none⟩ = some (.string s) ∧ s.size ≤ 140737488355328
/-- The lines' bytes. -/
def dat (ss : List ByteArray) : List (List UInt8) := ss.map (fun s => s.data.toList)

theorem Row.drop {w : World} {b o : Nat} {ss : List ByteArray} (h : Row w b o ss) (k : Nat) : Row w b (o + k) (ss.drop k) := by
  intro i s hi
  rw [List.getElem?_drop] at hi
  have := h (k + i) s hi
  rw [Nat.add_assoc]; exact this
theorem Row.below {w w' : World} {n b o : Nat} {ss : List ByteArray} (h : Row w b o ss) (hb : Below n w w') (hn : b < n) : Row w' b o ss := by
  intro i s hi
  exact ⟨(hb.cell (p := ⟨b, o + i, none⟩) hn).trans (h i s hi).1, (h i s hi).2⟩
theorem dat_get (ss : List ByteArray) (k : Nat) : (dat ss)[k]? = ss[k]?.map (fun s => s.data.toList) := by simp [dat]
theorem dat_drop (ss : List ByteArray) (k : Nat) : dat (ss.drop k) = (dat ss).drop k := by simp [dat]
theorem dat_length (ss : List ByteArray) : (dat ss).length = ss.length := by simp [dat]

set_option maxHeartbeats 400000 in
theorem countBlank_any (b o cap : Nat) (ss : List ByteArray) (w : World) (hl : ss.length ≤ 140737488355328) (hrow : Row w b o ss) :
    Calls Tryz.prog 42 #[.slice (some ⟨b, o, none⟩) ss.length cap] w fun e w' => e = .returned (.int .i64 (S.countBlank (dat ss) : Nat)) ∧ w' = w := by
  go_enter Tryz.func42, Tryz.ntmps42
  go_wp2
  go_loop [3] (fun i => ∃ k : Nat, k ≤ ss.length ∧ i = .int .i64 k ∧ ∀ j, j < k → ((dat ss)[j]?.map S.blank) = some true) (fun i => ss.length - (intOf i).toNat)
  case atStart => exact ⟨0, Nat.zero_le _, rfl, by intro j hj; omega⟩
  case round =>
    obtain ⟨k, hk, rfl, hall⟩ := hrel
    by_cases hlt : k < ss.length
    · obtain ⟨s, hs⟩ : ∃ s, ss[k]? = some s := ⟨ss[k], List.getElem?_eq_getElem hlt⟩
      obtain ⟨hcell, hsz'⟩ := hrow k s hs
      have hsz : s.size ≤ maxLen := by unfold maxLen; omega
      have hg : (dat ss)[k]? = some s.data.toList := by rw [dat_get, hs]; rfl
      cases hbl : S.blank s.data.toList
      · have hfin : Hid (S.countBlank (dat ss) = k) := hid (S.countBlank_at _ k hall (by rw [hg, Option.map_some, hbl]; simp))
        clear hg hall hs
        go_wp2_with (go_at_call 62; refine (isBlank_any _ _ hsz).mono ?_; rintro e w' ⟨rfl, rfl⟩)
        go_ret
        exact ⟨ret_int (by rw [hfin.out]), rfl⟩
      · have hall' : Hid (∀ j, j < k + 1 → ((dat ss)[j]?.map S.blank) = some true) := by
          intro j hj; by_cases e : j = k
          · subst e; rw [hg, Option.map_some, hbl]
          · exact hall j (by omega)
        clear hg hall hs
        go_wp2_with (go_at_call 62; refine (isBlank_any _ _ hsz).mono ?_; rintro e w' ⟨rfl, rfl⟩)
        exact ⟨⟨k + 1, by omega, by go_num, hall'.out⟩, by simp [intOf]; omega⟩
    · have hfin : Hid (S.countBlank (dat ss) = k) := hid (S.countBlank_at _ k hall (by rw [List.getElem?_eq_none (by rw [dat_length]; omega)]; simp))
      clear hall
      go_wp2
      go_ret
      exact ⟨ret_int (by rw [hfin.out]), rfl⟩

set_option maxHeartbeats 400000 in
theorem countBlank_nil (w : World) :
    Calls Tryz.prog 42 #[.slice none 0 0] w fun e w' => e = .returned (.int .i64 0) ∧ w' = w := by
  go_enter Tryz.func42, Tryz.ntmps42
  go_wp2
  refine wp_loop_rounds 1 ?_
  rw [rounds_succ]
  go_wp2
  go_ret
  exact ⟨rfl, rfl⟩

set_option maxHeartbeats 800000 in
theorem countDeep_any (b o cap : Nat) (ss : List ByteArray) (m : Int) (w : World) (hl : ss.length ≤ 140737488355328) (hrow : Row w b o ss) :
    Calls Tryz.prog 110 #[.slice (some ⟨b, o, none⟩) ss.length cap, .int .i64 m] w fun e w' => e = .returned (.int .i64 (S.countDeep m (dat ss) : Nat)) ∧ w' = w := by
  go_enter Tryz.func110, Tryz.ntmps110
  go_wp2
  go_loop [5, 6] (fun n i => ∃ k z : Nat, 1 ≤ k ∧ z ≤ k ∧ k ≤ ss.length + 1 ∧ n = .int .i64 z ∧ i = .int .i64 k ∧ S.countDeep m (dat ss) = S.countDeepFrom m z k ((dat ss).drop k)) (fun _ i => ss.length + 1 - (intOf i).toNat)
  case atStart => exact ⟨1, 1, by omega, by omega, by omega, rfl, rfl, by simp [S.countDeep]⟩
  case round =>
    obtain ⟨k, z, hk, hz, hkl, rfl, rfl, hcd⟩ := hrel
    by_cases hlt : k < ss.length
    · obtain ⟨s, hs⟩ : ∃ s, ss[k]? = some s := ⟨ss[k], List.getElem?_eq_getElem hlt⟩
      obtain ⟨hcell, hsz'⟩ := hrow k s hs
      have hsz : s.size ≤ maxLen := by unfold maxLen; omega
      have hst := S.countDeepFrom_step m z k (dat ss) s.data.toList (by rw [dat_get, hs]; rfl)
      rw [hst] at hcd
      clear hst hs
      cases hbl : S.blank s.data.toList
      · rw [hbl, if_neg (by simp)] at hcd
        by_cases hi : (S.indent s.data.toList : Int) < m
        · rw [if_pos hi] at hcd
          have hfin := hid hcd
          clear hcd
          go_wp2_with (first | (go_at_call 62; refine (isBlank_any _ _ hsz).mono ?_; rintro e w' ⟨rfl, rfl⟩) | (go_at_call 63; refine (indentOf_any _ _ hsz).mono ?_; rintro e w' ⟨rfl, rfl⟩))
          go_ret
          exact ⟨ret_int (by rw [hfin.out]), rfl⟩
        · rw [if_neg hi] at hcd
          have hfin := hid hcd
          clear hcd
          go_wp2_with (first | (go_at_call 62; refine (isBlank_any _ _ hsz).mono ?_; rintro e w' ⟨rfl, rfl⟩) | (go_at_call 63; refine (indentOf_any _ _ hsz).mono ?_; rintro e w' ⟨rfl, rfl⟩))
          exact ⟨⟨k + 1, k + 1, by omega, by omega, by omega, by go_num, by go_num, hfin.out⟩, by simp [intOf]; omega⟩
      · rw [hbl, if_pos rfl] at hcd
        have hfin := hid hcd
        clear hcd
        go_wp2_with (first | (go_at_call 62; refine (isBlank_any _ _ hsz).mono ?_; rintro e w' ⟨rfl, rfl⟩) | (go_at_call 63; refine (indentOf_any _ _ hsz).mono ?_; rintro e w' ⟨rfl, rfl⟩))
        exact ⟨⟨k + 1, z, by omega, by omega, by omega, rfl, by go_num, hfin.out⟩, by simp [intOf]; omega⟩
    · rw [S.countDeepFrom_end m z k _ (by rw [dat_length]; omega)] at hcd
      have hfin := hid hcd
      clear hcd
      go_wp2
      go_ret
      exact ⟨ret_int (by rw [hfin.out]), rfl⟩

end Go.Proofs.YtpoaadfkalnjgaaGreatDoor
