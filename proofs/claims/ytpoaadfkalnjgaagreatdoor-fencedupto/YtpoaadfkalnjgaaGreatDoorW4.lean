import Derived.Test.YtpoaadfkalnjgaaGreatDoorW3
import Derived.Test.YtpoaadfkalnjgaaGreatDoorStr2
namespace Go.Proofs.YtpoaadfkalnjgaaGreatDoor
open Go.RowKit

/-- What the calls take of the library's variables: they are there. -/
def Env (w : World) : Prop :=
  (∃ ev, w.cell? ⟨3, 0, none⟩ = some ev ∧ (ev = .nilIface ∨ ∃ te pe, ev = .iface te pe)) ∧ (∃ m : Int, w.cell? ⟨0, 0, none⟩ = some (.int .i64 m)) ∧ 3 < w.heap.size ∧ 0 < w.heap.size
theorem Env.below {w w' : World} (h : Env w) (hb : Below w.heap.size w w') : Env w' := by
  obtain ⟨⟨ev, h1, h2⟩, ⟨m, h3⟩, h4, h5⟩ := h
  have := hb.size
  exact ⟨⟨ev, (hb.cell (p := ⟨3, 0, none⟩) h4).trans h1, h2⟩, ⟨m, (hb.cell (p := ⟨0, 0, none⟩) h5).trans h3⟩, by omega, by omega⟩

set_option maxHeartbeats 800000 in
theorem markerSize_any (s : ByteArray) (w : World) (hs : s.size ≤ maxLen) :
    Calls Tryz.prog 125 #[.string s] w fun e w' => e = .returned (.int .i64 (S.markerSize s.data.toList : Nat)) ∧ w' = w := by
  unfold maxLen at hs
  go_enter Tryz.func125, Tryz.ntmps125
  go_wp2
  go_loop [3] (fun i => ∃ k : Nat, k ≤ s.size ∧ i = .int .i64 k ∧ ∀ j, j < k → (s.data.toList[j]?.map S.isDig) = some true) (fun i => s.size - (intOf i).toNat)
  case atStart => exact ⟨0, Nat.zero_le _, rfl, by intro j hj; omega⟩
  case round =>
    obtain ⟨k, hk, rfl, hall⟩ := hrel
    by_cases hlt : k < s.size
    · have hg : s.data.toList[k]? = some s[k] := S.get_data s k hlt
      cases hd : S.isDig s[k]
      · have hfin := hid (S.digs_at _ k hall (by rw [hg, Option.map_some, hd]; simp))
        have hor : (s[k].toNat : Int) < 48 ∨ (57 : Int) < s[k].toNat := by
          simp only [S.isDig, Bool.and_eq_false_iff, decide_eq_false_iff_not] at hd; omega
        have hgH := hid hg
        clear hall hg hd
        by_cases h6 : 6 < k
        · have hr : Hid (S.markerSize s.data.toList = 0) := hid (S.markerSize_long _ (by rw [hfin.out]; exact h6))
          have hk0 : ((k : Int) == 0) = false := by rw [beq_eq_false_iff_ne]; omega
          rcases hor with h1 | h1
          all_goals
            go_wp2
            go_ret
            exact ⟨ret_int (by rw [hr.out]; rfl), rfl⟩
        · have hke : ((k : Int) == (s.size : Int)) = false := by rw [beq_eq_false_iff_ne]; omega
          have fin : ∀ (x : Int) (l : List UInt8), l = S.markEnds k → (x < 0 ↔ s[k] ∉ l) → (S.markerSize s.data.toList : Int) = if x < 0 then 0 else (k : Int) + 1 := by
            intro x l hl hx
            by_cases hm : s[k] ∈ S.markEnds k
            · rw [if_neg (by rw [hx, hl]; simpa using hm), S.markerSize_yes _ s[k] (by rw [hfin.out]; exact h6) (by rw [hfin.out]; exact hgH.out) (by rw [hfin.out]; exact hm), hfin.out]; rfl
            · rw [if_pos (by rw [hx, hl]; exact hm), S.markerSize_no _ s[k] (by rw [hfin.out]; exact hgH.out) (by rw [hfin.out]; exact hm)]; rfl
          have finH := hid fin
          clear fin
          by_cases hk0 : k = 0
          · subst hk0
            have hke0 : ((0 : Int) == (s.size : Int)) = false := by rw [beq_eq_false_iff_ne]; omega
            clear hke
            rcases hor with h1 | h1
            all_goals
              go_wp2_with fail
              refine (indexByte_any _ s[0] _).mono ?_
              rintro e w'' ⟨x, rfl, hx, rfl⟩
              have hF := hid (finH.out x _ rfl hx.out)
              by_cases hx0 : x < 0
              · have hF0 : Hid ((S.markerSize s.data.toList : Int) = 0) := hid (by rw [hF.out, if_pos hx0])
                go_wp2
                go_ret
                exact ⟨ret_int hF0.out.symm, rfl⟩
              · have hF0 : Hid ((S.markerSize s.data.toList : Int) = 1) := hid (by rw [hF.out, if_neg hx0]; rfl)
                go_wp2
                go_ret
                exact ⟨ret_int hF0.out.symm, rfl⟩
          · have hk1 : ((k : Int) == 0) = false := by rw [beq_eq_false_iff_ne]; omega
            have hme : Hid (S.markEnds k = [46, 41]) := hid (by unfold S.markEnds; rw [if_neg hk0])
            clear hk0
            rcases hor with h1 | h1
            all_goals
              go_wp2_with fail
              refine (indexByte_any _ s[k] _).mono ?_
              rintro e w'' ⟨x, rfl, hx, rfl⟩
              have hF := hid (finH.out x _ hme.out.symm hx.out)
              by_cases hx0 : x < 0
              · have hF0 : Hid ((S.markerSize s.data.toList : Int) = 0) := hid (by rw [hF.out, if_pos hx0])
                go_wp2
                go_ret
                exact ⟨ret_int hF0.out.symm, rfl⟩
              · have hF0 : Hid ((S.markerSize s.data.toList : Int) = (k : Int) + 1) := hid (by rw [hF.out, if_neg hx0])
                go_wp2
                go_ret
                exact ⟨ret_int hF0.out.symm, rfl⟩
      · have hall' : Hid (∀ j, j < k + 1 → (s.data.toList[j]?.map S.isDig) = some true) := by
          intro j hj; by_cases e : j = k
          · subst e; rw [hg, Option.map_some, hd]
          · exact hall j (by omega)
        have hand : (48 : Int) ≤ s[k].toNat ∧ (s[k].toNat : Int) ≤ 57 := by
          simp only [S.isDig, Bool.and_eq_true, decide_eq_true_eq] at hd; omega
        obtain ⟨h1, h2⟩ := hand
        clear hall hg hd
        go_wp2
        exact ⟨⟨k + 1, by omega, by go_num, hall'.out⟩, by simp [intOf]; omega⟩
    · have hfin := hid (S.digs_at _ k hall (by rw [List.getElem?_eq_none (by rw [S.length_data]; omega)]; simp))
      have hr : Hid (S.markerSize s.data.toList = 0) := hid (S.markerSize_end _ (by rw [hfin.out, S.length_data]; omega))
      have hke : ((k : Int) == (s.size : Int)) = true := by rw [beq_iff_eq]; omega
      clear hall
      by_cases h6 : 6 < k
      · have hk0 : ((k : Int) == 0) = false := by rw [beq_eq_false_iff_ne]; omega
        go_wp2
        go_ret
        exact ⟨ret_int (by rw [hr.out]; rfl), rfl⟩
      · by_cases hk0 : k = 0
        · have hk1 : ((k : Int) == 0) = true := by rw [beq_iff_eq]; omega
          clear hk0
          go_wp2
          go_ret
          exact ⟨ret_int (by rw [hr.out]; rfl), rfl⟩
        · have hk1 : ((k : Int) == 0) = false := by rw [beq_eq_false_iff_ne]; omega
          clear hk0
          go_wp2
          go_ret
          exact ⟨ret_int (by rw [hr.out]; rfl), rfl⟩

end Go.Proofs.YtpoaadfkalnjgaaGreatDoor
