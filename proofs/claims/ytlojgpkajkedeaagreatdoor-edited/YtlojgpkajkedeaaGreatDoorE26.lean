import Derived.Test.YtlojgpkajkedeaaGreatDoorE24
import Derived.WalkMore
/- cut. -/
namespace Go.Proofs.YtlojgpkajkedeaaGreatDoor
open Go.RowKit

/-- The frame of cut at a label: the cutter's place, what size is; the rest is whatever it is. -/
structure cutFrm (C : Nat) (v2 : Value) (a : Act) : Prop where
  size : a.tmps.size = 89
  zero : a.tmps[0]? = some (.pointer (some ⟨C, 0, none⟩))
  two : a.tmps[2]? = some v2
  defers : a.defers = []
theorem list_89 (l : List Value) (h : l.length = 89) : ∃ u : Nat → Value, l = [u 0, u 1, u 2, u 3, u 4, u 5, u 6, u 7, u 8, u 9, u 10, u 11, u 12, u 13, u 14, u 15, u 16, u 17, u 18, u 19, u 20, u 21, u 22, u 23, u 24, u 25, u 26, u 27, u 28, u 29, u 30, u 31, u 32, u 33, u 34, u 35, u 36, u 37, u 38, u 39, u 40, u 41, u 42, u 43, u 44, u 45, u 46, u 47, u 48, u 49, u 50, u 51, u 52, u 53, u 54, u 55, u 56, u 57, u 58, u 59, u 60, u 61, u 62, u 63, u 64, u 65, u 66, u 67, u 68, u 69, u 70, u 71, u 72, u 73, u 74, u 75, u 76, u 77, u 78, u 79, u 80, u 81, u 82, u 83, u 84, u 85, u 86, u 87, u 88] ∧ ∀ i, i < 89 → l[i]? = some (u i) := by
  refine ⟨fun i => l[i]?.getD undef, ?_, ?_⟩
  · show l = (List.range 89).map (fun i => l[i]?.getD undef)
    apply List.ext_getElem?
    intro i
    rw [List.getElem?_map]
    by_cases hi : i < 89
    · rw [List.getElem?_range hi, List.getElem?_eq_getElem (by omega), Option.map_some, List.getElem?_eq_getElem (by omega)]; rfl
    · rw [List.getElem?_eq_none (by omega), List.getElem?_eq_none (by simp; omega)]; rfl
  · intro i hi
    show l[i]? = some (l[i]?.getD undef)
    rw [List.getElem?_eq_getElem (by omega)]; rfl
theorem cutFrm.out {C : Nat} {v2 : Value} {a : Act} (h : cutFrm C v2 a) : ∃ u : Nat → Value, a = { tmps := #[.pointer (some ⟨C, 0, none⟩), u 1, v2, u 3, u 4, u 5, u 6, u 7, u 8, u 9, u 10, u 11, u 12, u 13, u 14, u 15, u 16, u 17, u 18, u 19, u 20, u 21, u 22, u 23, u 24, u 25, u 26, u 27, u 28, u 29, u 30, u 31, u 32, u 33, u 34, u 35, u 36, u 37, u 38, u 39, u 40, u 41, u 42, u 43, u 44, u 45, u 46, u 47, u 48, u 49, u 50, u 51, u 52, u 53, u 54, u 55, u 56, u 57, u 58, u 59, u 60, u 61, u 62, u 63, u 64, u 65, u 66, u 67, u 68, u 69, u 70, u 71, u 72, u 73, u 74, u 75, u 76, u 77, u 78, u 79, u 80, u 81, u 82, u 83, u 84, u 85, u 86, u 87, u 88], defers := [] } := by
  obtain ⟨tm, df⟩ := a
  obtain ⟨l⟩ := tm
  obtain ⟨h1, h2, h3, h4⟩ := h
  simp only at h1 h2 h3 h4
  obtain ⟨u, hl, hu⟩ := list_89 l (by simpa using h1)
  refine ⟨u, ?_⟩
  have e0 : u 0 = .pointer (some ⟨C, 0, none⟩) := by
    have := hu 0 (by omega)
    have h2' : l[0]? = some (.pointer (some ⟨C, 0, none⟩)) := by simpa using h2
    rw [h2'] at this; exact (Option.some.inj this).symm
  have e2 : u 2 = v2 := by
    have := hu 2 (by omega)
    have h3' : l[2]? = some v2 := by simpa using h3
    rw [h3'] at this; exact (Option.some.inj this).symm
  rw [hl, h4, e0, e2]
/-- What holds at each label. -/
def cutJ (C : Nat) (ct : ByteArray) (w0 : World) (s0 : St) (l n : Nat) (a : Act) (w : World) : Prop := match l with
  | 0 => ∃ v2 s, cutFrm C v2 a ∧ At C ct w0 s w ∧ (∀ r, Ends ct s r → Ends ct s0 r) ∧ n = 8 * (ct.size - s.k) + 4
  | 1 => ∃ s, cutFrm C (.int .i64 1) a ∧ At C ct w0 s w ∧ (∀ r, Ends ct s r → Ends ct s0 r) ∧ (∃ h : s.k < ct.size, ct[s.k] = 92) ∧ n = 8 * (ct.size - s.k) + 3
  | 2 => ∃ s, cutFrm C (.int .i64 1) a ∧ At C ct w0 s w ∧ (∀ r, Ends ct s r → Ends ct s0 r) ∧ (∃ h : s.k < ct.size, ct[s.k] = 32) ∧ n = 8 * (ct.size - s.k) + 3
  | 3 => ∃ (s : St) (z : Nat), cutFrm C (.int .i64 (z : Nat)) a ∧ At C ct w0 s w ∧ (∀ r, Ends ct (s.lay ct softPt z) r → Ends ct s0 r) ∧ 1 ≤ z ∧ s.k + z ≤ ct.size ∧ n = 8 * (ct.size - s.k) + 1
  | 4 => ∃ (s : St) (z : Nat), cutFrm C (.int .i64 (z : Nat)) a ∧ At C ct w0 s w ∧ (∀ r, Ends ct (s.text z) r → Ends ct s0 r) ∧ 1 ≤ z ∧ s.k + z ≤ ct.size ∧ n = 8 * (ct.size - s.k) + 1
  | 5 => ∃ (s : St) (z : Nat), cutFrm C (.int .i64 (z : Nat)) a ∧ At C ct w0 s w ∧ (∀ r, Ends ct (s.lay ct breakPt z) r → Ends ct s0 r) ∧ 1 ≤ z ∧ s.k + z ≤ ct.size ∧ n = 8 * (ct.size - s.k) + 1
  | _ => False
theorem cutJ_lt (C : Nat) (ct : ByteArray) (w0 : World) (s0 : St) (l n : Nat) (a : Act) (w : World) (h : cutJ C ct w0 s0 l n a w) : l < 6 := by
  match l with
  | 0 => omega
  | 1 => omega
  | 2 => omega
  | 3 => omega
  | 4 => omega
  | 5 => omega
  | l + 6 => exact h.elim
theorem bracket_k (ct : ByteArray) (s : St) : ((s.bracket ct).1 = true → s.k < (s.bracket ct).2.k) ∧ ((s.bracket ct).1 = false → (s.bracket ct).2.k = s.k) := by
  unfold St.bracket
  split
  · unfold St.close
    split
    · exact ⟨fun h => by simp at h, fun _ => rfl⟩
    · split
      · exact ⟨fun _ => by show s.k < s.k + _; omega, fun h => by simp at h⟩
      · exact ⟨fun h => by simp at h, fun _ => rfl⟩
  · split
    · exact ⟨fun _ => by show s.k < s.k + 1; omega, fun h => by simp at h⟩
    · split
      · exact ⟨fun _ => by show s.k < s.k + 2; omega, fun h => by simp at h⟩
      · exact ⟨fun h => by simp at h, fun _ => rfl⟩
set_option maxRecDepth 100000 in
set_option maxHeartbeats 8000000 in
theorem cut_any (C : Nat) (ct : ByteArray) (s0 : St) (w : World) (h : At C ct w s0 w) :
    Calls Tryz.prog 106 #[.pointer (some ⟨C, 0, none⟩)] w fun e w' => e = .returned (.tuple #[]) ∧ ∃ s, At C ct w s w' ∧ Ends ct s0 s.ps := by
  have hH := hid h
  clear h
  go_enter Tryz.func106, Tryz.ntmps106
  go_wp2_with fail
  refine wp_scope_six (cutJ C ct w s0) (cutJ_lt C ct w s0) rfl rfl rfl rfl rfl rfl rfl ?start ?p0 ?p1 ?p2 ?p3 ?p4 ?p5
  case start =>
    intro QQ K hK
    go_wp2
    exact hK.out _ _ _ ⟨_, s0, ⟨rfl, rfl, rfl, rfl⟩, hH.out, fun r h => h, rfl⟩
  case p0 =>
    rintro n a wr ⟨v2, s, hfr, hA, hE, rfl⟩ K hK
    obtain ⟨u, rfl⟩ := hfr.out
    obtain ⟨x3, x4, x5, hcc⟩ := hA.cells
    have hkl := hA.kl
    have hsm := hA.small
    have hAH := hid hA
    have q0 : wr.cell? ⟨C, 0, none⟩ = some (.string ct) := cell_blk hcc 0 _ rfl
    have q2 : wr.cell? ⟨C, 2, none⟩ = some (.int .i64 (s.k : Nat)) := cell_blk hcc 2 _ rfl
    by_cases hk : s.k < ct.size
    · have hne : ((s.k : Int) == (ct.size : Int)) = false := by rw [beq_eq_false_iff_ne]; omega
      obtain ⟨bv, hbv⟩ : ∃ bv : Nat, ct[s.k].toNat = bv := ⟨_, rfl⟩
      have hbyte : Hid (∀ b : UInt8, bv = b.toNat → ct[s.k] = b) := hid (fun b h => UInt8.toNat_inj.1 (hbv.trans h))
      have hbne : Hid (∀ b : UInt8, bv ≠ b.toNat → ct[s.k] ≠ b) := hid (fun b h e => h (by rw [← hbv, e]))
      have hE1 : Hid (∀ r, Ends ct (step ct s) r → Ends ct s0 r) := hid (fun r h => hE r (.go s r hk h))
      have hEH := hid hE
      have hccH := hid hcc
      have hI0 : (0 : Int) ≤ (s.k : Int) := by omega
      have hI1 : (s.k : Int) < (ct.size : Int) := by omega
      clear hcc hA hE hfr
      go_wp2_with fail
      go_region
      go_wp2_with fail
      go_region
      by_cases h92 : bv = 92
      · have hby := hid (hbyte.out 92 h92)
        subst h92
        go_wp2
        go_step3
        exact hK.out 1 (8 * (ct.size - s.k) + 3) _ _ (by omega) ⟨s, ⟨rfl, rfl, rfl, rfl⟩, hAH.out.drew.drew, hEH.out, ⟨hk, hby.out⟩, rfl⟩
      have e92 : ((bv : Int) == 92) = false := by rw [beq_eq_false_iff_ne]; omega
      by_cases h96 : bv = 96
      · have hby := hid (hbyte.out 96 h96)
        subst h96
        have hst := hid (step_96 ct s hk hby.out)
        have hR := hid (rest_any C ct s.f s.k x3 x4 x5 wr.drew.drew hccH.out hkl)
        have hz : (ct.extract s.k ct.size).size = ct.size - s.k := by simp
        have hSp := hid (laySpan_at hAH.out.drew.drew.drew hk)
        have hcs := hid (fun wx => countSame_any (ct.extract s.k ct.size) wx (by rw [hz]; simp [maxLen]; omega) (by omega) (by rw [ByteArray.getElem_extract]; simp [hby.out]))
        rw [ext_rest] at hcs
        have hsa := same_at ct s.k hk
        obtain ⟨m, hm⟩ : ∃ m, S.same (ct.data.toList.drop s.k) = m := ⟨_, rfl⟩
        rw [hm] at hst hSp hcs hsa
        clear hm hz
        obtain ⟨hsa1, hzk⟩ := hsa
        cases hv : S.spanAt (ct.data.toList.drop s.k) m with
        | some v =>
          rw [hv] at hst hSp
          have hvH := hid hv
          clear hv
          go_wp2_with fail
          refine hR.out.mono ?_
          rintro e w' ⟨rfl, rfl⟩
          go_wp2_with fail
          refine (hcs.out _).mono ?_
          rintro e w' ⟨rfl, rfl⟩
          go_wp2_with fail
          refine hSp.out.mono ?_
          rintro e w' ⟨rfl, hA'⟩
          have hA'H := hid hA'
          clear hA'
          go_wp2
          go_step3
          exact hK.out 0 (8 * (ct.size - (s.k + (v + m))) + 4) _ _ (by omega) ⟨_, _, ⟨rfl, rfl, rfl, rfl⟩, hA'H.out, fun r h => hE1.out r (by rw [hst.out]; exact h), rfl⟩
        | none =>
          rw [hv] at hst hSp
          clear hv
          go_wp2_with fail
          refine hR.out.mono ?_
          rintro e w' ⟨rfl, rfl⟩
          go_wp2_with fail
          refine (hcs.out _).mono ?_
          rintro e w' ⟨rfl, rfl⟩
          go_wp2_with fail
          refine hSp.out.mono ?_
          rintro e w' ⟨rfl, hA'⟩
          have hA'H := hid hA'
          obtain ⟨y3, y4, y5, hcc'⟩ := hA'.cells
          have k2 : w'.cell? ⟨C, 2, none⟩ = some (.int .i64 (s.k : Nat)) := cell_blk hcc' 2 _ rfl
          have kf := free_blk hcc'
          clear hA' hcc'
          go_wp2
          go_step3
          go_wp2
          go_step3
          exact hK.out 0 (8 * (ct.size - (s.k + m)) + 4) _ _ (by omega) ⟨_, _, ⟨rfl, rfl, rfl, rfl⟩, hA'H.out.text m hzk, fun r h => hE1.out r (by rw [hst.out]; exact h), rfl⟩
      have e96 : ((bv : Int) == 96) = false := by rw [beq_eq_false_iff_ne]; omega
      by_cases h32 : bv = 32
      · have hby := hid (hbyte.out 32 h32)
        subst h32
        go_wp2
        go_step3
        exact hK.out 2 (8 * (ct.size - s.k) + 3) _ _ (by omega) ⟨s, ⟨rfl, rfl, rfl, rfl⟩, hAH.out.drew.drew, hEH.out, ⟨hk, hby.out⟩, rfl⟩
      have e32 : ((bv : Int) == 32) = false := by rw [beq_eq_false_iff_ne]; omega
      by_cases h10 : bv = 10
      · have hby := hid (hbyte.out 10 h10)
        subst h10
        have hst := hid (step_10 ct s hk hby.out)
        go_wp2
        go_step3
        exact hK.out 3 (8 * (ct.size - s.k) + 1) _ _ (by omega) ⟨s, 1, ⟨rfl, rfl, rfl, rfl⟩, hAH.out.drew.drew, fun r h => hE1.out r (by rw [hst.out]; exact h), by omega, by omega, rfl⟩
      have e10 : ((bv : Int) == 10) = false := by rw [beq_eq_false_iff_ne]; omega
      by_cases h60 : bv = 60
      · have hby := hid (hbyte.out 60 h60)
        subst h60
        have hst := hid (step_60 ct s hk hby.out)
        have hLA := hid (layAddress_at hAH.out.drew.drew hk)
        have hzk : s.k + 1 ≤ ct.size := hk
        cases hv : S.angOk (ct.data.toList.drop s.k) with
        | true =>
          rw [hv, if_pos rfl] at hst hLA
          clear hv
          go_wp2_with fail
          refine hLA.out.mono ?_
          rintro e w' ⟨rfl, hA'⟩
          have hA'H := hid hA'
          clear hA'
          go_wp2
          go_step3
          exact hK.out 0 (8 * (ct.size - (s.k + ((S.angAddr (ct.data.toList.drop s.k)).length + 2))) + 4) _ _ (by omega) ⟨_, _, ⟨rfl, rfl, rfl, rfl⟩, hA'H.out, fun r h => hE1.out r (by rw [hst.out]; exact h), rfl⟩
        | false =>
          rw [hv, if_neg (by simp)] at hst hLA
          clear hv
          go_wp2_with fail
          refine hLA.out.mono ?_
          rintro e w' ⟨rfl, hA'⟩
          have hA'H := hid hA'
          obtain ⟨y3, y4, y5, hcc'⟩ := hA'.cells
          have k2 : w'.cell? ⟨C, 2, none⟩ = some (.int .i64 (s.k : Nat)) := cell_blk hcc' 2 _ rfl
          have kf := free_blk hcc'
          clear hA' hcc'
          go_wp2
          go_step3
          go_wp2
          go_step3
          exact hK.out 0 (8 * (ct.size - (s.k + 1)) + 4) _ _ (by omega) ⟨_, _, ⟨rfl, rfl, rfl, rfl⟩, hA'H.out.text 1 hzk, fun r h => hE1.out r (by rw [hst.out]; exact h), rfl⟩
      have e60 : ((bv : Int) == 60) = false := by rw [beq_eq_false_iff_ne]; omega
      by_cases h42 : bv = 42
      · have hby := hid (hbyte.out 42 h42)
        subst h42
        have hst := hid (step_run ct s hk (.inl hby.out))
        have hLR := hid (layRun_at hAH.out.drew.drew hk (by rw [hby.out]; decide))
        have hsa := same_at ct s.k hk
        go_wp2_with fail
        refine hLR.out.mono ?_
        rintro e w' ⟨rfl, hA'⟩
        have hA'H := hid hA'
        clear hA'
        go_wp2
        go_step3
        exact hK.out 0 (8 * (ct.size - (s.k + S.same (ct.data.toList.drop s.k))) + 4) _ _ (by omega) ⟨_, _, ⟨rfl, rfl, rfl, rfl⟩, hA'H.out, fun r h => hE1.out r (by rw [hst.out]; exact h), rfl⟩
      have e42 : ((bv : Int) == 42) = false := by rw [beq_eq_false_iff_ne]; omega
      by_cases h95 : bv = 95
      · have hby := hid (hbyte.out 95 h95)
        subst h95
        have hst := hid (step_run ct s hk (.inr hby.out))
        have hLR := hid (layRun_at hAH.out.drew.drew hk (by rw [hby.out]; decide))
        have hsa := same_at ct s.k hk
        go_wp2_with fail
        refine hLR.out.mono ?_
        rintro e w' ⟨rfl, hA'⟩
        have hA'H := hid hA'
        clear hA'
        go_wp2
        go_step3
        exact hK.out 0 (8 * (ct.size - (s.k + S.same (ct.data.toList.drop s.k))) + 4) _ _ (by omega) ⟨_, _, ⟨rfl, rfl, rfl, rfl⟩, hA'H.out, fun r h => hE1.out r (by rw [hst.out]; exact h), rfl⟩
      have e95 : ((bv : Int) == 95) = false := by rw [beq_eq_false_iff_ne]; omega
      by_cases h33 : bv = 33
      · have hby := hid (hbyte.out 33 h33)
        subst h33
        have hst := hid (step_br ct s hk (.inl hby.out))
        have hLB := hid (bracket_at hAH.out.drew.drew hk)
        have hbk := bracket_k ct s
        obtain ⟨⟨xb, s1⟩, hx⟩ : ∃ x, s.bracket ct = x := ⟨_, rfl⟩
        rw [hx] at hst hLB hbk
        dsimp only at hst hLB hbk
        clear hx
        cases xb with
        | true =>
          have hkk := hbk.1 rfl
          rw [if_pos rfl] at hst
          go_wp2_with fail
          refine hLB.out.mono ?_
          rintro e w' ⟨rfl, hA'⟩
          have hkl' := hA'.kl
          have hA'H := hid hA'
          clear hA' hbk
          go_wp2
          go_step3
          exact hK.out 0 (8 * (ct.size - s1.k) + 4) _ _ (by omega) ⟨_, _, ⟨rfl, rfl, rfl, rfl⟩, hA'H.out, fun r h => hE1.out r (by rw [hst.out]; exact h), rfl⟩
        | false =>
          have hkk := hbk.2 rfl
          rw [if_neg (by simp)] at hst
          go_wp2_with fail
          refine hLB.out.mono ?_
          rintro e w' ⟨rfl, hA'⟩
          have hA'H := hid hA'
          obtain ⟨y3, y4, y5, hcc'⟩ := hA'.cells
          have k2 : w'.cell? ⟨C, 2, none⟩ = some (.int .i64 (s1.k : Nat)) := cell_blk hcc' 2 _ rfl
          have kf := free_blk hcc'
          have hzk : s1.k + 1 ≤ ct.size := by omega
          have hkkH := hid hkk
          clear hA' hcc' hbk hkk
          go_wp2
          go_step3
          go_wp2
          go_step3
          exact hK.out 0 (8 * (ct.size - (s1.k + 1)) + 4) _ _ (by have := hkkH.out; omega) ⟨_, _, ⟨rfl, rfl, rfl, rfl⟩, hA'H.out.text 1 hzk, fun r h => hE1.out r (by rw [hst.out]; exact h), rfl⟩
      have e33 : ((bv : Int) == 33) = false := by rw [beq_eq_false_iff_ne]; omega
      by_cases h91 : bv = 91
      · have hby := hid (hbyte.out 91 h91)
        subst h91
        have hst := hid (step_br ct s hk (.inr (.inl hby.out)))
        have hLB := hid (bracket_at hAH.out.drew.drew hk)
        have hbk := bracket_k ct s
        obtain ⟨⟨xb, s1⟩, hx⟩ : ∃ x, s.bracket ct = x := ⟨_, rfl⟩
        rw [hx] at hst hLB hbk
        dsimp only at hst hLB hbk
        clear hx
        cases xb with
        | true =>
          have hkk := hbk.1 rfl
          rw [if_pos rfl] at hst
          go_wp2_with fail
          refine hLB.out.mono ?_
          rintro e w' ⟨rfl, hA'⟩
          have hkl' := hA'.kl
          have hA'H := hid hA'
          clear hA' hbk
          go_wp2
          go_step3
          exact hK.out 0 (8 * (ct.size - s1.k) + 4) _ _ (by omega) ⟨_, _, ⟨rfl, rfl, rfl, rfl⟩, hA'H.out, fun r h => hE1.out r (by rw [hst.out]; exact h), rfl⟩
        | false =>
          have hkk := hbk.2 rfl
          rw [if_neg (by simp)] at hst
          go_wp2_with fail
          refine hLB.out.mono ?_
          rintro e w' ⟨rfl, hA'⟩
          have hA'H := hid hA'
          obtain ⟨y3, y4, y5, hcc'⟩ := hA'.cells
          have k2 : w'.cell? ⟨C, 2, none⟩ = some (.int .i64 (s1.k : Nat)) := cell_blk hcc' 2 _ rfl
          have kf := free_blk hcc'
          have hzk : s1.k + 1 ≤ ct.size := by omega
          have hkkH := hid hkk
          clear hA' hcc' hbk hkk
          go_wp2
          go_step3
          go_wp2
          go_step3
          exact hK.out 0 (8 * (ct.size - (s1.k + 1)) + 4) _ _ (by have := hkkH.out; omega) ⟨_, _, ⟨rfl, rfl, rfl, rfl⟩, hA'H.out.text 1 hzk, fun r h => hE1.out r (by rw [hst.out]; exact h), rfl⟩
      have e91 : ((bv : Int) == 91) = false := by rw [beq_eq_false_iff_ne]; omega
      by_cases h93 : bv = 93
      · have hby := hid (hbyte.out 93 h93)
        subst h93
        have hst := hid (step_br ct s hk (.inr (.inr hby.out)))
        have hLB := hid (bracket_at hAH.out.drew.drew hk)
        have hbk := bracket_k ct s
        obtain ⟨⟨xb, s1⟩, hx⟩ : ∃ x, s.bracket ct = x := ⟨_, rfl⟩
        rw [hx] at hst hLB hbk
        dsimp only at hst hLB hbk
        clear hx
        cases xb with
        | true =>
          have hkk := hbk.1 rfl
          rw [if_pos rfl] at hst
          go_wp2_with fail
          refine hLB.out.mono ?_
          rintro e w' ⟨rfl, hA'⟩
          have hkl' := hA'.kl
          have hA'H := hid hA'
          clear hA' hbk
          go_wp2
          go_step3
          exact hK.out 0 (8 * (ct.size - s1.k) + 4) _ _ (by omega) ⟨_, _, ⟨rfl, rfl, rfl, rfl⟩, hA'H.out, fun r h => hE1.out r (by rw [hst.out]; exact h), rfl⟩
        | false =>
          have hkk := hbk.2 rfl
          rw [if_neg (by simp)] at hst
          go_wp2_with fail
          refine hLB.out.mono ?_
          rintro e w' ⟨rfl, hA'⟩
          have hA'H := hid hA'
          obtain ⟨y3, y4, y5, hcc'⟩ := hA'.cells
          have k2 : w'.cell? ⟨C, 2, none⟩ = some (.int .i64 (s1.k : Nat)) := cell_blk hcc' 2 _ rfl
          have kf := free_blk hcc'
          have hzk : s1.k + 1 ≤ ct.size := by omega
          have hkkH := hid hkk
          clear hA' hcc' hbk hkk
          go_wp2
          go_step3
          go_wp2
          go_step3
          exact hK.out 0 (8 * (ct.size - (s1.k + 1)) + 4) _ _ (by have := hkkH.out; omega) ⟨_, _, ⟨rfl, rfl, rfl, rfl⟩, hA'H.out.text 1 hzk, fun r h => hE1.out r (by rw [hst.out]; exact h), rfl⟩
      have e93 : ((bv : Int) == 93) = false := by rw [beq_eq_false_iff_ne]; omega
      have hst := hid (step_else ct s hk (hbne.out 92 h92) (hbne.out 96 h96) (hbne.out 32 h32) (hbne.out 10 h10) (hbne.out 60 h60) (hbne.out 42 h42) (hbne.out 95 h95) (hbne.out 33 h33) (hbne.out 91 h91) (hbne.out 93 h93))
      have hzk : s.k + 1 ≤ ct.size := hk
      have hA2 := hid hAH.out.drew.drew
      have k2 : wr.drew.drew.cell? ⟨C, 2, none⟩ = some (.int .i64 (s.k : Nat)) := q2
      have kf : ∀ i, wr.drew.drew.frozen? ⟨C, i, none⟩ = false := free_blk hccH.out
      go_wp2
      go_step3
      go_wp2
      go_step3
      exact hK.out 0 (8 * (ct.size - (s.k + 1)) + 4) _ _ (by omega) ⟨_, _, ⟨rfl, rfl, rfl, rfl⟩, hA2.out.text 1 hzk, fun r h => hE1.out r (by rw [hst.out]; exact h), rfl⟩
    · have hke : s.k = ct.size := by omega
      have heq : ((s.k : Int) == (ct.size : Int)) = true := by rw [beq_iff_eq]; omega
      have hS := hid (skip_at 0 hA.drew (by omega))
      have hEH : Hid (Ends ct s0 (s.skip ct 0).ps) := hid (hE _ (.done s hke))
      clear hcc hA hE hfr hke hk
      go_wp2_with fail
      go_region
      go_wp2_with fail
      refine hS.out.mono ?_
      rintro e w' ⟨rfl, hA'⟩
      have hA'H := hid hA'
      clear hA'
      go_wp2
      simp only [jumps]
      exact bodyPost_ret (results_none rfl _ _ _) rfl ⟨rfl, s.skip ct 0, hA'H.out, hEH.out⟩
  case p1 =>
    rintro n a wr ⟨s, hfr, hA, hE, ⟨hk, hb⟩, rfl⟩ K hK
    obtain ⟨u, rfl⟩ := hfr.out
    obtain ⟨x3, x4, x5, hcc⟩ := hA.cells
    have hst := hid (step_92 ct s hk hb)
    have hE1 : Hid (∀ r, Ends ct (step ct s) r → Ends ct s0 r) := hid (fun r h => hE r (.go s r hk h))
    have hC1 := hid (comes_any C ct ⟨#[92, 10]⟩ s.f s.k x3 x4 x5 wr hcc hA.kl)
    rw [show (⟨#[92, 10]⟩ : ByteArray).data.toList = [92, 10] from rfl] at hC1
    have hR := hid (rest_any C ct s.f s.k x3 x4 x5 wr.drew hcc hA.kl)
    have hsm := hA.small
    have hAH := hid hA
    have hEs := hid (fun wx => escapes_any (ct.extract s.k ct.size) wx (by simp [maxLen]; omega))
    rw [ext_rest] at hEs
    clear hcc hE hb hA hfr
    generalize hp : Lib.hasPrefix (ct.data.toList.drop s.k) [92, 10] = pb at hC1
    cases pb with
    | true =>
      have hkl := prefix_len _ _ hp
      rw [List.length_drop, S.length_data] at hkl
      have hkl : s.k + 2 ≤ ct.size := by have : 2 ≤ ct.size - s.k := hkl; omega
      have hpH := hid hp
      clear hp
      go_wp2_with fail
      refine hC1.out.mono ?_
      rintro e w' ⟨rfl, rfl⟩
      go_wp2
      go_step3
      exact hK.out 5 (8 * (ct.size - s.k) + 1) _ _ (by omega) ⟨s, 2, ⟨rfl, rfl, rfl, rfl⟩, hAH.out.drew, fun r h => hE1.out r (by rw [hst.out, if_pos hpH.out]; exact h), by omega, hkl, rfl⟩
    | false =>
      generalize he : S.escapes (ct.data.toList.drop s.k) = eb at hEs
      have hpH := hid hp
      have heH := hid he
      clear hp he
      cases eb with
      | true =>
        have hS := hid (skip_at 1 hAH.out.drew.drew hk)
        have hkl : s.k + 2 ≤ ct.size := by
          have h1 := heH.out
          unfold S.escapes at h1
          by_cases h2 : s.k + 1 < ct.size
          · omega
          · rw [List.getElem?_eq_none (by rw [List.length_drop, S.length_data]; omega)] at h1; simp at h1
        go_wp2_with fail
        refine hC1.out.mono ?_
        rintro e w' ⟨rfl, rfl⟩
        go_wp2_with fail
        refine hR.out.mono ?_
        rintro e w' ⟨rfl, rfl⟩
        go_wp2_with fail
        refine (hEs.out _).mono ?_
        rintro e w' ⟨rfl, rfl⟩
        go_wp2_with fail
        refine hS.out.mono ?_
        rintro e w' ⟨rfl, hA'⟩
        have hA'H := hid hA'
        clear hA'
        go_wp2
        go_step3
        exact hK.out 4 (8 * (ct.size - (s.k + 1)) + 1) _ _ (by omega) ⟨s.skip ct 1, 1, ⟨rfl, rfl, rfl, rfl⟩, hA'H.out, fun r h => hE1.out r (by rw [hst.out, if_neg (by rw [hpH.out]; simp), if_pos heH.out]; exact h), by omega, hkl, rfl⟩
      | false =>
        go_wp2_with fail
        refine hC1.out.mono ?_
        rintro e w' ⟨rfl, rfl⟩
        go_wp2_with fail
        refine hR.out.mono ?_
        rintro e w' ⟨rfl, rfl⟩
        go_wp2_with fail
        refine (hEs.out _).mono ?_
        rintro e w' ⟨rfl, rfl⟩
        go_wp2
        go_step3
        exact hK.out 4 (8 * (ct.size - s.k) + 1) _ _ (by omega) ⟨s, 1, ⟨rfl, rfl, rfl, rfl⟩, hAH.out.drew.drew, fun r h => hE1.out r (by rw [hst.out, if_neg (by rw [hpH.out]; simp), if_neg (by rw [heH.out]; simp)]; exact h), by omega, by omega, rfl⟩
  case p2 =>
    rintro n a wr ⟨s, hfr, hA, hE, ⟨hk, hb⟩, rfl⟩ K hK
    obtain ⟨u, rfl⟩ := hfr.out
    obtain ⟨x3, x4, x5, hcc⟩ := hA.cells
    have hst := hid (step_32 ct s hk hb)
    have hE1 : Hid (∀ r, Ends ct (step ct s) r → Ends ct s0 r) := hid (fun r h => hE r (.go s r hk h))
    have hsm := hA.small
    have hAH := hid hA
    have hR := hid (rest_any C ct s.f s.k x3 x4 x5 wr hcc hA.kl)
    have hR2 := hid (rest_any C ct s.f s.k x3 x4 x5 wr.drew hcc hA.kl)
    have hz : (ct.extract s.k ct.size).size = ct.size - s.k := by simp
    obtain ⟨m, hm⟩ : ∃ m, S.same (ct.data.toList.drop s.k) = m := ⟨_, rfl⟩
    have hcs : Hid (∀ wx, Calls Tryz.prog 153 #[.string (ct.extract s.k ct.size)] wx fun e w' => e = .returned (.int .i64 (m : Nat)) ∧ wx = w') := hid (fun wx => by
      have := countSame_any (ct.extract s.k ct.size) wx (by rw [hz]; simp [maxLen]; omega) (by omega) (by rw [ByteArray.getElem_extract]; simp [hb])
      rw [ext_rest, hm] at this; exact this)
    have hsa := same_at ct s.k hk
    rw [hm] at hst hsa
    have hP := hid (fun wx => Tryz.strings_HasPrefix ((ct.extract s.k ct.size).extract m (ct.size - s.k)) ⟨#[10]⟩ wx)
    have hPe : ((ct.extract s.k ct.size).extract m (ct.size - s.k)).data.toList = ct.data.toList.drop (s.k + m) := by
      rw [← hz, ext_rest, ext_rest, List.drop_drop]
    rw [hPe] at hP
    have hI0 : (0 : Int) ≤ (m : Int) := by omega
    have hI1 : (m : Int) ≤ ((ct.extract s.k ct.size).size : Int) := by omega
    have hI2 : (m : Int) ≤ ((ct.size - s.k : Nat) : Int) := by omega
    have hI3 : m ≤ ct.size - s.k := by omega
    clear hcc hE hb hA hfr hm hPe
    go_wp2_with fail
    refine hR.out.mono ?_
    rintro e w' ⟨rfl, rfl⟩
    go_wp2_with fail
    refine (hcs.out _).mono ?_
    rintro e w' ⟨rfl, rfl⟩
    go_wp2_with fail
    refine hR2.out.mono ?_
    rintro e w' ⟨rfl, rfl⟩
    generalize hp : Lib.hasPrefix (ct.data.toList.drop (s.k + m)) (⟨#[10]⟩ : ByteArray).data.toList = pb at hP
    have hpH : Hid (Lib.hasPrefix (ct.data.toList.drop (s.k + m)) [10] = pb) := hid hp
    clear hp
    go_wp2_with fail
    refine (hP.out _).mono ?_
    rintro e w' ⟨rfl, rfl⟩
    cases pb with
    | false =>
      go_wp2
      go_step3
      exact hK.out 4 (8 * (ct.size - s.k) + 1) _ _ (by omega) ⟨s, m, ⟨rfl, rfl, rfl, rfl⟩, hAH.out.drew.drew, fun r h => hE1.out r (by rw [hst.out, if_neg (by rw [hpH.out]; simp)]; exact h), hsa.1, hsa.2, rfl⟩
    | true =>
      have hkl := prefix_len _ _ hpH.out
      rw [List.length_drop, S.length_data] at hkl
      have hkl : s.k + (m + 1) ≤ ct.size := by have : 1 ≤ ct.size - (s.k + m) := hkl; omega
      by_cases h2 : 2 ≤ m
      · have hcmp : (2 : Int) < (m : Int) + 1 := by omega
        go_wp2
        go_step3
        exact hK.out 5 (8 * (ct.size - s.k) + 1) _ _ (by omega) ⟨s, m + 1, ⟨rfl, rfl, rfl, rfl⟩, hAH.out.drew.drew, fun r h => hE1.out r (by rw [hst.out, if_pos hpH.out, if_pos h2]; exact h), by omega, hkl, rfl⟩
      · have hcmp : ¬ (2 : Int) < (m : Int) + 1 := by omega
        have hL : Hid (Calls Tryz.prog 162 #[.pointer (some ⟨C, 0, none⟩), .agg #[.int .i64 9, .string ⟨#[]⟩, .string ⟨#[]⟩, .pointer none, .pointer none, .int .i64 0, .bool false, .bool false], .int .i64 ((m : Int) + 1)] wr.drew.drew fun e w' => (∃ v, e = .returned v) ∧ At C ct w (s.lay ct softPt (m + 1)) w') := hid (lay_at softPt (m + 1) hAH.out.drew.drew hkl rfl rfl rfl)
        go_wp2
        go_step3
        go_wp2_with fail
        refine hL.out.mono ?_
        rintro e w' ⟨⟨v, rfl⟩, hA'⟩
        have hA'H := hid hA'
        clear hA'
        go_wp2
        go_step3
        exact hK.out 0 (8 * (ct.size - (s.k + (m + 1))) + 4) _ _ (by omega) ⟨_, s.lay ct softPt (m + 1), ⟨rfl, rfl, rfl, rfl⟩, hA'H.out, fun r h => hE1.out r (by rw [hst.out, if_pos hpH.out, if_neg h2]; exact h), rfl⟩
  case p3 =>
    rintro n a wr ⟨s, z, hfr, hA, hE, hz, hkz, rfl⟩ K hK
    obtain ⟨u, rfl⟩ := hfr.out
    have hL : Hid (Calls Tryz.prog 162 #[.pointer (some ⟨C, 0, none⟩), .agg #[.int .i64 9, .string ⟨#[]⟩, .string ⟨#[]⟩, .pointer none, .pointer none, .int .i64 0, .bool false, .bool false], .int .i64 (z : Nat)] wr fun e w' => (∃ v, e = .returned v) ∧ At C ct w (s.lay ct softPt z) w') := hid (lay_at softPt z hA hkz rfl rfl rfl)
    refine wp_skip_seq (wp_seq_then (fun a' w' => cutJ C ct w s0 0 (8 * (ct.size - (s.k + z)) + 4) a' w') (fun K2 hK2 => ?_) (fun a' w' h' => wp_goto_seq (hK.out 0 _ a' w' (by omega) h')))
    have hK2H := hid hK2
    have hEH := hid hE
    clear hK2 hK hfr hA hE
    generalize jumps K _ = QQ
    go_wp2_with fail
    refine hL.out.mono ?_
    rintro e w' ⟨⟨v, rfl⟩, hA'⟩
    have hA'H := hid hA'
    clear hA'
    go_wp2
    exact hK2H.out _ _ ⟨_, s.lay ct softPt z, ⟨rfl, rfl, rfl, rfl⟩, hA'H.out, hEH.out, rfl⟩
  case p4 =>
    rintro n a wr ⟨s, z, hfr, hA, hE, hz, hkz, rfl⟩ K hK
    obtain ⟨u, rfl⟩ := hfr.out
    obtain ⟨x3, x4, x5, hcc⟩ := hA.cells
    have q2 : wr.cell? ⟨C, 2, none⟩ = some (.int .i64 (s.k : Nat)) := cell_blk hcc 2 _ rfl
    have qf := free_blk hcc
    have hAH := hid hA
    have hEH := hid hE
    have hsm := hA.small
    clear hA hE hcc
    refine wp_skip_seq (wp_seq_then (fun a' w' => cutJ C ct w s0 0 (8 * (ct.size - (s.k + z)) + 4) a' w') (fun K2 hK2 => ?_) (fun a' w' h' => wp_goto_seq (hK.out 0 _ a' w' (by omega) h')))
    have hK2H := hid hK2
    clear hK2 hK hfr
    generalize jumps K _ = QQ
    go_wp2
    exact hK2H.out _ _ ⟨_, s.text z, ⟨rfl, rfl, rfl, rfl⟩, hAH.out.text z hkz, hEH.out, rfl⟩
  case p5 =>
    rintro n a wr ⟨s, z, hfr, hA, hE, hz, hkz, rfl⟩ K hK
    obtain ⟨u, rfl⟩ := hfr.out
    have hL : Hid (Calls Tryz.prog 162 #[.pointer (some ⟨C, 0, none⟩), .agg #[.int .i64 10, .string ⟨#[]⟩, .string ⟨#[]⟩, .pointer none, .pointer none, .int .i64 0, .bool false, .bool false], .int .i64 (z : Nat)] wr fun e w' => (∃ v, e = .returned v) ∧ At C ct w (s.lay ct breakPt z) w') := hid (lay_at breakPt z hA hkz rfl rfl rfl)
    refine wp_skip_seq (wp_seq_then (fun a' w' => cutJ C ct w s0 0 (8 * (ct.size - (s.k + z)) + 4) a' w') (fun K2 hK2 => ?_) (fun a' w' h' => wp_goto (hK.out 0 _ a' w' (by omega) h')))
    have hK2H := hid hK2
    have hEH := hid hE
    clear hK2 hK hfr hA hE
    generalize jumps K _ = QQ
    go_wp2_with fail
    refine hL.out.mono ?_
    rintro e w' ⟨⟨v, rfl⟩, hA'⟩
    have hA'H := hid hA'
    clear hA'
    go_wp2
    exact hK2H.out _ _ ⟨_, s.lay ct breakPt z, ⟨rfl, rfl, rfl, rfl⟩, hA'H.out, hEH.out, rfl⟩
end Go.Proofs.YtlojgpkajkedeaaGreatDoor
