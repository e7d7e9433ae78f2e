/- Escaped: the walk of the statement. -/
import Derived.Test.YtlojgpkajkedeaaGreatDoorXR
import Derived.Laws.IdiomStrings
namespace Go.Proofs.YtlojgpkajkedeaaGreatDoor
open Go.RowKit

set_option maxHeartbeats 2000000 in
theorem pick_forty (c : Int) (w : World) (h1 : -9223372036854775808 ≤ c) (h2 : c ≤ 9223372036854775807) :
    Calls Tryz.prog 21 #[.int .i64 c, .int .i64 40] w fun e w' => ∃ p : Nat, p < 40 ∧ e = .returned (.int .i64 (p : Nat)) ∧ w = w' := by
  by_cases hc : c < 0
  · obtain ⟨p, hp⟩ : ∃ p : Nat, -((c + 1).tmod 40) = (p : Int) := ⟨(-((c + 1).tmod 40)).toNat, by rw [← Int.neg_tmod, Int.tmod_eq_emod_of_nonneg (by omega)]; omega⟩
    have hp40 : p < 40 := by rw [← Int.neg_tmod, Int.tmod_eq_emod_of_nonneg (by omega)] at hp; omega
    have hpH := hid hp
    clear hp
    go_enter Tryz.func21, Tryz.ntmps21
    go_wp2
    go_ret
    refine ⟨p, hp40, ?_, rfl⟩
    rw [← hpH.out]; rfl
  · obtain ⟨p, hp⟩ : ∃ p : Nat, c % 40 = (p : Int) := ⟨(c % 40).toNat, by omega⟩
    have hp40 : p < 40 := by omega
    have hpH := hid hp
    clear hp
    go_enter Tryz.func21, Tryz.ntmps21
    go_wp2
    go_ret
    refine ⟨p, hp40, ?_, rfl⟩
    rw [← hpH.out]; rfl

def allL : List UInt8 := [97, 98, 122, 65, 90, 48, 49, 57, 33, 34, 35, 36, 37, 38, 39, 40, 41, 42, 43, 44, 45, 46, 47, 58, 59, 60, 61, 62, 63, 64, 91, 92, 93, 94, 95, 96, 123, 124, 125, 126]
theorem all_signs : ∀ b ∈ allL, S.Sign b := by
  intro b hb
  have : ∀ b ∈ allL, (S.alnum b || S.mark b) = true := by decide
  have := this b hb
  rw [Bool.or_eq_true] at this
  exact this
/-- Numbers that came in. -/
def RawIn (ra : Option Addr) (zs : List Int) (w : World) : Prop := ∀ (i : Nat) (z : Int), zs[i]? = some z → ∃ b o, ra = some ⟨b, o, none⟩ ∧ b < w.heap.size ∧ w.cell? ⟨b, o + i, none⟩ = some (.int .i64 z) ∧ -9223372036854775808 ≤ z ∧ z ≤ 9223372036854775807

theorem conv_one (c : UInt8) (n : Nat) (h : c.toNat = n) (wx : World) : (convert 45 9 (.slice (some ⟨wx.heap.size, 0, none⟩) 1 1)).run Tryz.prog (wx.alloc (.cells #[.int .u8 (n : Int)] 5)) = .ok (.string ⟨#[c]⟩) (wx.alloc (.cells #[.int .u8 (n : Int)] 5)) := by
  refine run_convert_bytes_back _ 45 9 5 ⟨wx.heap.size, 0, none⟩ 1 [c] Tryz.underlying45 Tryz.underlying5 Tryz.underlying9 ?_
  intro j hj
  have ha : (⟨wx.heap.size, 0, none⟩ : Addr).add j = ⟨wx.heap.size, j, none⟩ := by
    simp only [Addr.add]; split
    · rename_i h; simp <;> omega
    · simp <;> omega
  rw [ha]
  refine cell_blk (alloc_new _ _) j _ ?_
  match j, hj with
  | 0, _ => show some (Value.int .u8 (n : Int)) = some (.int .u8 (c.toNat : Int)); rw [h]
  | j + 1, hj => simp at hj

set_option maxRecDepth 100000 in
set_option maxHeartbeats 8000000 in
theorem escaped_any (ra : Option Addr) (zs : List Int) (rc : Nat) (w : World) (hraw : RawIn ra zs w) (henv : Env w) :
    Calls Tryz.prog 8 #[.slice ra zs.length rc] w fun e w' => e = .returned (.bool true) ∧ Below w.heap.size w w' := by
  have hRd := hid (reading_any w henv)
  have henvH := hid henv
  have hrawH := hid hraw
  clear henv hraw
  go_enter Tryz.func8, Tryz.ntmps8
  go_wp2_with fail
  refine hRd.out.mono ?_
  rintro e w1 ⟨rfl, hb1⟩
  have henv1 := hid (henvH.out.below hb1)
  have hb1H := hid hb1
  have hz1 : w.heap.size ≤ w1.heap.size := hb1.size
  clear hb1
  go_wp2
  obtain ⟨al, hal⟩ : ∃ al : ByteArray, S.B allL = al := ⟨_, rfl⟩
  have hal' : (⟨#[97, 98, 122, 65, 90, 48, 49, 57, 33, 34, 35, 36, 37, 38, 39, 40, 41, 42, 43, 44, 45, 46, 47, 58, 59, 60, 61, 62, 63, 64, 91, 92, 93, 94, 95, 96, 123, 124, 125, 126]⟩ : ByteArray) = al := hal
  rw [hal']
  have hals : al.size = 40 := by rw [← hal]; rfl
  have halS : Hid (∀ (p : Nat) (h : p < al.size), S.Sign al[p]) := hid (fun p h => by
    refine all_signs _ ?_
    have hd : al.data.toList = allL := by rw [← hal, S.data_B]
    rw [← hd]
    exact List.mem_of_getElem? (S.get_data al p h))
  clear hal hal'
  go_loopw [4, 5, 7] (fun sv tv i wr => ∃ (k : Nat) (cs : List UInt8), k ≤ zs.length ∧ k ≤ 300 ∧ sv = .string (S.B (97 :: cs)) ∧ tv = .string (S.B (97 :: S.esc cs)) ∧ i = .int .i64 k ∧ Hid (cs.length = k ∧ (∀ b ∈ cs, S.Sign b) ∧ Below w1.heap.size w1 wr)) (fun _ _ i _ => 300 - (intOf i).toNat)
  case atStart => exact ⟨0, [], Nat.zero_le _, Nat.zero_le _, rfl, rfl, rfl, hid ⟨rfl, by simp, Below.refl _ _⟩⟩
  case round =>
    obtain ⟨k, cs, hkz, hk3, rfl, rfl, rfl, hrel'⟩ := hrel
    have hesl : ∀ l : List UInt8, (S.esc l).length ≤ 2 * l.length := by
      intro l
      induction l with
      | nil => simp [S.esc]
      | cons b l ih =>
        rw [S.esc_cons, List.length_append, List.length_cons]
        have : (S.esc1 b).length ≤ 2 := by unfold S.esc1; split <;> simp
        omega
    have hcl := hrel'.out.1
    have hsz : (S.B (97 :: cs)).size ≤ 1000 := by rw [S.size_B]; simp; omega
    have htz : (S.B (97 :: S.esc cs)).size ≤ 1000 := by rw [S.size_B, List.length_cons]; have := hesl cs; omega
    have hszr : w1.heap.size ≤ wr.heap.size := hrel'.out.2.2.size
    by_cases hlt : k < zs.length ∧ k < 300
    · obtain ⟨hlz, hl3⟩ := hlt
      obtain ⟨z, hzk⟩ : ∃ z, zs[k]? = some z := ⟨zs[k], List.getElem?_eq_getElem hlz⟩
      obtain ⟨rb, ro, rfl, hrb, hcell, hzb1, hzb2⟩ := hrawH.out k z hzk
      have hcellr : wr.cell? ⟨rb, ro + k, none⟩ = some (.int .i64 z) := by
        rw [hrel'.out.2.2.cell (p := ⟨rb, ro + k, none⟩) (by show rb < _; omega), hb1H.out.cell (p := ⟨rb, ro + k, none⟩) hrb]; exact hcell
      have hPk := hid (pick_forty z wr hzb1 hzb2)
      have e1 : (k : Int) < (zs.length : Int) := by omega
      have e2 : (k : Int) < 300 := by omega
      have e3 : (0 : Int) ≤ (k : Int) := by omega
      have hal40 : (al.size : Int) = 40 := by omega
      clear hzk hcell hcl hesl
      --ROUND
      go_wp2_with fail
      refine hPk.out.mono ?_
      rintro e w' ⟨p, hp40, rfl, rfl⟩
      have hpl : p < al.size := by omega
      have hp0 : (0 : Int) ≤ (p : Int) := by omega
      have hp1 : (p : Int) < (al.size : Int) := by omega
      have hp2 : (p : Int) < 40 := by omega
      obtain ⟨c, hc⟩ : ∃ c, al[p] = c := ⟨_, rfl⟩
      obtain ⟨n, hn⟩ : ∃ n, c.toNat = n := ⟨_, rfl⟩
      have hbv : al[p].toNat = n := by rw [hc]; exact hn
      have hsg : Hid (S.Sign c) := hid (by rw [← hc]; exact halS.out p hpl)
      have kc := conv_one c n hn wr
      have kc2 : (convert 45 9 (.slice (some ⟨wr.heap.size + 1, 0, none⟩) 1 1)).run Tryz.prog ((wr.alloc (.cells #[.int .u8 (n : Int)] 5)).alloc (.cells #[.int .u8 (n : Int)] 5)) = .ok (.string ⟨#[c]⟩) ((wr.alloc (.cells #[.int .u8 (n : Int)] 5)).alloc (.cells #[.int .u8 (n : Int)] 5)) := by
        have := conv_one c n hn (wr.alloc (.cells #[.int .u8 (n : Int)] 5))
        rw [show (wr.alloc (.cells #[.int .u8 (n : Int)] 5)).heap.size = wr.heap.size + 1 by simp] at this
        exact this
      have hnc : Hid (∀ a : Bool, (decide (97 ≤ n) && decide (n ≤ 122) || decide (65 ≤ n) && decide (n ≤ 90) || decide (48 ≤ n) && decide (n ≤ 57)) = a → S.alnum c = a) := hid (fun a h => by
        unfold S.alnum S.letter S.isDig; rw [hn]; exact h)
      have hs' : Hid (S.B (97 :: cs) ++ ⟨#[c]⟩ = S.B (97 :: (cs ++ [c]))) := hid (by rw [B_push]; rfl)
      have hescs : Hid (S.esc (cs ++ [c]) = S.esc cs ++ S.esc1 c) := hid (by simp [S.esc])
      have htA : Hid (S.alnum c = true → S.B (97 :: S.esc cs) ++ ⟨#[c]⟩ = S.B (97 :: S.esc (cs ++ [c]))) := hid (fun h => by
        rw [B_push, hescs.out]; unfold S.esc1; rw [if_pos h]; rfl)
      have htB : Hid (S.alnum c = false → S.B (97 :: S.esc cs) ++ ⟨#[92]⟩ ++ ⟨#[c]⟩ = S.B (97 :: S.esc (cs ++ [c]))) := hid (fun h => by
        rw [B_push, B_push, hescs.out]; unfold S.esc1; rw [if_neg (by rw [h]; simp)]; simp)
      have hnext : Hid (∀ wx, Below w1.heap.size w1 wx → (cs ++ [c]).length = k + 1 ∧ (∀ b ∈ cs ++ [c], S.Sign b) ∧ Below w1.heap.size w1 wx) := hid (fun wx hx => ⟨by rw [List.length_append, hrel'.out.1]; rfl, fun b hb => by
        rcases List.mem_append.1 hb with hb | hb
        · exact hrel'.out.2.1 b hb
        · simp at hb; subst hb; exact hsg.out, hx⟩)
      clear hn hc
      rcases (show n < 48 ∨ (48 ≤ n ∧ n ≤ 57) ∨ (57 < n ∧ n < 65) ∨ (65 ≤ n ∧ n ≤ 90) ∨ (90 < n ∧ n < 97) ∨ (97 ≤ n ∧ n ≤ 122) ∨ 122 < n by omega) with hr | hr | hr | hr | hr | hr | hr
      · have x0 : ¬ (97 : Int) ≤ (n : Int) := by omega
        have y0 : decide ((97 : Int) ≤ (n : Int)) = false := decide_eq_false x0
        have x1 : (n : Int) ≤ 122 := by omega
        have x2 : ¬ (65 : Int) ≤ (n : Int) := by omega
        have y2 : decide ((65 : Int) ≤ (n : Int)) = false := decide_eq_false x2
        have x3 : (n : Int) ≤ 90 := by omega
        have x4 : ¬ (48 : Int) ≤ (n : Int) := by omega
        have y4 : decide ((48 : Int) ≤ (n : Int)) = false := decide_eq_false x4
        have x5 : (n : Int) ≤ 57 := by omega
        have hac : Hid (S.alnum c = false) := hid (hnc.out _ (by simp <;> omega))
        clear hr
        go_wp2
        go_roundw
        case rel => exact ⟨k + 1, cs ++ [c], by omega, by omega, by rw [hs'.out], by rw [htB.out hac.out], by go_num, hid (hnext.out _ ((hrel'.out.2.2.alloc hszr _).alloc (by simp; omega) _))⟩
        case measure => simp [intOf]; omega
      · have x0 : ¬ (97 : Int) ≤ (n : Int) := by omega
        have y0 : decide ((97 : Int) ≤ (n : Int)) = false := decide_eq_false x0
        have x1 : (n : Int) ≤ 122 := by omega
        have x2 : ¬ (65 : Int) ≤ (n : Int) := by omega
        have y2 : decide ((65 : Int) ≤ (n : Int)) = false := decide_eq_false x2
        have x3 : (n : Int) ≤ 90 := by omega
        have x4 : (48 : Int) ≤ (n : Int) := by omega
        have x5 : (n : Int) ≤ 57 := by omega
        have hac : Hid (S.alnum c = true) := hid (hnc.out _ (by simp <;> omega))
        clear hr
        go_wp2
        go_roundw
        case rel => exact ⟨k + 1, cs ++ [c], by omega, by omega, by rw [hs'.out], by rw [htA.out hac.out], by go_num, hid (hnext.out _ ((hrel'.out.2.2.alloc hszr _).alloc (by simp; omega) _))⟩
        case measure => simp [intOf]; omega
      · have x0 : ¬ (97 : Int) ≤ (n : Int) := by omega
        have y0 : decide ((97 : Int) ≤ (n : Int)) = false := decide_eq_false x0
        have x1 : (n : Int) ≤ 122 := by omega
        have x2 : ¬ (65 : Int) ≤ (n : Int) := by omega
        have y2 : decide ((65 : Int) ≤ (n : Int)) = false := decide_eq_false x2
        have x3 : (n : Int) ≤ 90 := by omega
        have x4 : (48 : Int) ≤ (n : Int) := by omega
        have x5 : ¬ (n : Int) ≤ 57 := by omega
        have y5 : decide ((n : Int) ≤ 57) = false := decide_eq_false x5
        have hac : Hid (S.alnum c = false) := hid (hnc.out _ (by simp <;> omega))
        clear hr
        go_wp2
        go_roundw
        case rel => exact ⟨k + 1, cs ++ [c], by omega, by omega, by rw [hs'.out], by rw [htB.out hac.out], by go_num, hid (hnext.out _ ((hrel'.out.2.2.alloc hszr _).alloc (by simp; omega) _))⟩
        case measure => simp [intOf]; omega
      · have x0 : ¬ (97 : Int) ≤ (n : Int) := by omega
        have y0 : decide ((97 : Int) ≤ (n : Int)) = false := decide_eq_false x0
        have x1 : (n : Int) ≤ 122 := by omega
        have x2 : (65 : Int) ≤ (n : Int) := by omega
        have x3 : (n : Int) ≤ 90 := by omega
        have x4 : (48 : Int) ≤ (n : Int) := by omega
        have x5 : ¬ (n : Int) ≤ 57 := by omega
        have y5 : decide ((n : Int) ≤ 57) = false := decide_eq_false x5
        have hac : Hid (S.alnum c = true) := hid (hnc.out _ (by simp <;> omega))
        clear hr
        go_wp2
        go_roundw
        case rel => exact ⟨k + 1, cs ++ [c], by omega, by omega, by rw [hs'.out], by rw [htA.out hac.out], by go_num, hid (hnext.out _ ((hrel'.out.2.2.alloc hszr _).alloc (by simp; omega) _))⟩
        case measure => simp [intOf]; omega
      · have x0 : ¬ (97 : Int) ≤ (n : Int) := by omega
        have y0 : decide ((97 : Int) ≤ (n : Int)) = false := decide_eq_false x0
        have x1 : (n : Int) ≤ 122 := by omega
        have x2 : (65 : Int) ≤ (n : Int) := by omega
        have x3 : ¬ (n : Int) ≤ 90 := by omega
        have y3 : decide ((n : Int) ≤ 90) = false := decide_eq_false x3
        have x4 : (48 : Int) ≤ (n : Int) := by omega
        have x5 : ¬ (n : Int) ≤ 57 := by omega
        have y5 : decide ((n : Int) ≤ 57) = false := decide_eq_false x5
        have hac : Hid (S.alnum c = false) := hid (hnc.out _ (by simp <;> omega))
        clear hr
        go_wp2
        go_roundw
        case rel => exact ⟨k + 1, cs ++ [c], by omega, by omega, by rw [hs'.out], by rw [htB.out hac.out], by go_num, hid (hnext.out _ ((hrel'.out.2.2.alloc hszr _).alloc (by simp; omega) _))⟩
        case measure => simp [intOf]; omega
      · have x0 : (97 : Int) ≤ (n : Int) := by omega
        have x1 : (n : Int) ≤ 122 := by omega
        have x2 : (65 : Int) ≤ (n : Int) := by omega
        have x3 : ¬ (n : Int) ≤ 90 := by omega
        have y3 : decide ((n : Int) ≤ 90) = false := decide_eq_false x3
        have x4 : (48 : Int) ≤ (n : Int) := by omega
        have x5 : ¬ (n : Int) ≤ 57 := by omega
        have y5 : decide ((n : Int) ≤ 57) = false := decide_eq_false x5
        have hac : Hid (S.alnum c = true) := hid (hnc.out _ (by simp <;> omega))
        clear hr
        go_wp2
        go_roundw
        case rel => exact ⟨k + 1, cs ++ [c], by omega, by omega, by rw [hs'.out], by rw [htA.out hac.out], by go_num, hid (hnext.out _ ((hrel'.out.2.2.alloc hszr _).alloc (by simp; omega) _))⟩
        case measure => simp [intOf]; omega
      · have x0 : (97 : Int) ≤ (n : Int) := by omega
        have x1 : ¬ (n : Int) ≤ 122 := by omega
        have y1 : decide ((n : Int) ≤ 122) = false := decide_eq_false x1
        have x2 : (65 : Int) ≤ (n : Int) := by omega
        have x3 : ¬ (n : Int) ≤ 90 := by omega
        have y3 : decide ((n : Int) ≤ 90) = false := decide_eq_false x3
        have x4 : (48 : Int) ≤ (n : Int) := by omega
        have x5 : ¬ (n : Int) ≤ 57 := by omega
        have y5 : decide ((n : Int) ≤ 57) = false := decide_eq_false x5
        have hac : Hid (S.alnum c = false) := hid (hnc.out _ (by simp <;> omega))
        clear hr
        go_wp2
        go_roundw
        case rel => exact ⟨k + 1, cs ++ [c], by omega, by omega, by rw [hs'.out], by rw [htB.out hac.out], by go_num, hid (hnext.out _ ((hrel'.out.2.2.alloc hszr _).alloc (by simp; omega) _))⟩
        case measure => simp [intOf]; omega
    · have hor : (¬ (k : Int) < (zs.length : Int)) ∨ ((k : Int) < (zs.length : Int) ∧ ¬ (k : Int) < 300) := by omega
      rcases hor with hk1 | ⟨hk1, hk2⟩
      · skip
        have hcl2 := hrel'.out.1
        obtain ⟨sb, hsb⟩ : ∃ sb, S.B (97 :: cs) = sb := ⟨_, rfl⟩
        obtain ⟨tb, htb⟩ : ∃ tb, S.B (97 :: S.esc cs) = tb := ⟨_, rfl⟩
        have hsb1 : (1 : Int) ≤ (sb.size : Int) := by rw [← hsb, S.size_B, List.length_cons]; omega
        have htb1 : (1 : Int) ≤ (tb.size : Int) := by rw [← htb, S.size_B, List.length_cons]; omega
        obtain ⟨SB, hSB⟩ : ∃ SB, SB = sb.extract 1 sb.size ++ ⟨#[97]⟩ := ⟨_, rfl⟩
        obtain ⟨TB, hTB⟩ : ∃ TB, TB = tb.extract 1 tb.size ++ ⟨#[97]⟩ := ⟨_, rfl⟩
        have hSBe : S.B (escS cs) = SB := by
          rw [hSB, ← S.B_data (sb.extract 1 sb.size), S.drop_data, ← hsb, S.data_B, B_push]; rfl
        have hTBe : TB = S.B (escT cs) := by
          rw [hTB, ← S.B_data (tb.extract 1 tb.size), S.drop_data, ← htb, S.data_B, B_push]; rfl
        have hTd : TB.data.toList = escT cs := by rw [hTBe, S.data_B]
        have hTz : TB.size ≤ 700 := by rw [hTBe, S.size_B]; show (S.esc cs ++ [97]).length ≤ 700; rw [List.length_append]; have := hesl cs; simp; omega
        have hSg := hrel'.out.2.1
        have henvr : Env wr := henv1.out.below hrel'.out.2.2
        have hN1 : nodesOf TB.data.toList = [⟨0, 1, 0, ⟨#[]⟩, ⟨#[]⟩⟩, ⟨1, 8, 0, ⟨#[]⟩, SB⟩] := by rw [hTd, esc_nodes1 cs hSg, hSBe]
        have hN2 : nodesOf ((⟨#[35, 32]⟩ : ByteArray) ++ TB).data.toList = [⟨0, 2, 1, ⟨#[]⟩, ⟨#[]⟩⟩, ⟨1, 8, 0, ⟨#[]⟩, SB⟩] := by
          have e : ((⟨#[35, 32]⟩ : ByteArray) ++ TB).data.toList = 35 :: 32 :: escT cs := by rw [ByteArray.data_append, Array.toList_append, hTd]; rfl
          rw [e, esc_nodes2 cs hSg, hSBe]
        have hN3 : nodesOf ((⟨#[62, 32, 42, 32, 42, 42]⟩ : ByteArray) ++ TB ++ ⟨#[42, 42, 32, 98]⟩).data.toList = [⟨0, 5, 0, ⟨#[]⟩, ⟨#[]⟩⟩, ⟨1, 6, (-1), ⟨#[]⟩, ⟨#[116, 105, 103, 104, 116]⟩⟩, ⟨2, 7, 0, ⟨#[]⟩, ⟨#[]⟩⟩, ⟨3, 1, 0, ⟨#[]⟩, ⟨#[]⟩⟩, ⟨4, 15, 0, ⟨#[]⟩, ⟨#[]⟩⟩, ⟨5, 8, 0, ⟨#[]⟩, SB⟩, ⟨4, 8, 0, ⟨#[]⟩, ⟨#[32, 98]⟩⟩] := by
          have e : ((⟨#[62, 32, 42, 32, 42, 42]⟩ : ByteArray) ++ TB ++ ⟨#[42, 42, 32, 98]⟩).data.toList = escQ cs := by
            rw [ByteArray.data_append, ByteArray.data_append, Array.toList_append, Array.toList_append, hTd]; simp [escQ, S.quoted, starT]
          rw [e, esc_nodes3 cs hSg, hSBe]
        have hT1 := hid (tree_all TB wr (by omega) henvr)
        have hT2 := hid (fun (wx : World) (hx : Below wr.heap.size wr wx) => tree_all (⟨#[35, 32]⟩ ++ TB) wx (by rw [ByteArray.size_append]; show 2 + TB.size ≤ 1500; omega) (henvr.below hx))
        have hT3 := hid (fun (wx : World) (hx : Below wr.heap.size wr wx) => tree_all (⟨#[62, 32, 42, 32, 42, 42]⟩ ++ TB ++ ⟨#[42, 42, 32, 98]⟩) wx (by rw [ByteArray.size_append, ByteArray.size_append]; show 6 + TB.size + 4 ≤ 1500; omega) (henvr.below hx))
        rw [hN1] at hT1
        rw [hN2] at hT2
        rw [hN3] at hT3
        have hbr := hid (hb1H.out.trans (hrel'.out.2.2.mono hz1))
        have hSBH := hid hSB
        have hTBH := hid hTB
        rw [hsb] at hsz ⊢
        rw [htb] at htz ⊢
        have hTz2 : TB.size ≤ 700 := hTz
        clear hsb htb hSB hTB hSBe hTBe hTd hSg hN1 hN2 hN3 hesl hcl hcl2 henvr
        go_wp2_with fail
        rw [← hTBH.out, ← hSBH.out]
        refine hT1.out.mono ?_
        rintro e w3 ⟨B1, a1, cp1, rfl, hB1, hown1, hb3⟩
        have hT2' := hid (hT2.out w3 hb3)
        have hown1H := hid hown1
        have hb3H := hid hb3
        have hz3 : wr.heap.size ≤ w3.heap.size := hb3.size
        clear hown1 hb3
        go_wp2_with fail
        refine hT2'.out.mono ?_
        rintro e w4 ⟨B2, a2, cp2, rfl, hB2, hown2, hb4⟩
        have hb34 := hid (hb3H.out.trans (hb4.mono hz3))
        have hT3' := hid (hT3.out w4 hb34.out)
        have hown2H := hid hown2
        have hb4H := hid hb4
        have hz4 : w3.heap.size ≤ w4.heap.size := hb4.size
        clear hown2 hb4
        go_wp2_with fail
        refine hT3'.out.mono ?_
        rintro e w5 ⟨B3, a3, cp3, rfl, hB3, hown3, hb5⟩
        have hown3H := hid hown3
        have hb5H := hid hb5
        have hz5 : w4.heap.size ≤ w5.heap.size := hb5.size
        clear hown3 hb5
        obtain ⟨V1, hV1⟩ : ∃ V1, V1 = w5.alloc (.cells #[.int .i64 0, .int .i64 1, .int .i64 0, .string ⟨#[]⟩, .string ⟨#[]⟩, .int .i64 1, .int .i64 8, .int .i64 0, .string ⟨#[]⟩, .string SB] 36) := ⟨_, rfl⟩
        have hbV1 : Below w5.heap.size w5 V1 := by rw [hV1]; exact (Below.refl _ _).alloc (Nat.le_refl _) _
        have hlV1 : OwnsN w5.heap.size (some ⟨w5.heap.size, 0, none⟩) 2 [⟨0, 1, 0, ⟨#[]⟩, ⟨#[]⟩⟩, ⟨1, 8, 0, ⟨#[]⟩, SB⟩] V1 := by rw [hV1]; exact lit_owns w5 [⟨0, 1, 0, ⟨#[]⟩, ⟨#[]⟩⟩, ⟨1, 8, 0, ⟨#[]⟩, SB⟩] 2 rfl (by simp)
        have hS1 := hid (same_true B1 w5.heap.size a1 (some ⟨w5.heap.size, 0, none⟩) cp1 2 [⟨0, 1, 0, ⟨#[]⟩, ⟨#[]⟩⟩, ⟨1, 8, 0, ⟨#[]⟩, SB⟩] V1 (((hown1H.out.below hb4H.out).below hb5H.out).below hbV1) hlV1 (by simp))
        have hV1H := hid hV1
        have hbV1H := hid hbV1
        clear hV1 hbV1 hlV1
        go_wp2_with fail
        rw [← hV1H.out]
        refine hS1.out.mono ?_
        rintro e w6 ⟨rfl, hb6⟩
        have hb56 : Below w5.heap.size w5 w6 := hbV1H.out.trans (hb6.mono hbV1H.out.size)
        have hb56H := hid hb56
        have hz6 : w5.heap.size ≤ w6.heap.size := hb56.size
        clear hb6 hb56
        obtain ⟨V2, hV2⟩ : ∃ V2, V2 = w6.alloc (.cells #[.int .i64 0, .int .i64 2, .int .i64 1, .string ⟨#[]⟩, .string ⟨#[]⟩, .int .i64 1, .int .i64 8, .int .i64 0, .string ⟨#[]⟩, .string SB] 36) := ⟨_, rfl⟩
        have hbV2 : Below w6.heap.size w6 V2 := by rw [hV2]; exact (Below.refl _ _).alloc (Nat.le_refl _) _
        have hlV2 : OwnsN w6.heap.size (some ⟨w6.heap.size, 0, none⟩) 2 [⟨0, 2, 1, ⟨#[]⟩, ⟨#[]⟩⟩, ⟨1, 8, 0, ⟨#[]⟩, SB⟩] V2 := by rw [hV2]; exact lit_owns w6 [⟨0, 2, 1, ⟨#[]⟩, ⟨#[]⟩⟩, ⟨1, 8, 0, ⟨#[]⟩, SB⟩] 2 rfl (by simp)
        have hS2 := hid (same_true B2 w6.heap.size a2 (some ⟨w6.heap.size, 0, none⟩) cp2 2 [⟨0, 2, 1, ⟨#[]⟩, ⟨#[]⟩⟩, ⟨1, 8, 0, ⟨#[]⟩, SB⟩] V2 (((hown2H.out.below hb5H.out).below hb56H.out).below hbV2) hlV2 (by simp))
        have hV2H := hid hV2
        have hbV2H := hid hbV2
        clear hV2 hbV2 hlV2
        go_wp2_with fail
        rw [← hV2H.out]
        refine hS2.out.mono ?_
        rintro e w7 ⟨rfl, hb7⟩
        have hb67 : Below w6.heap.size w6 w7 := hbV2H.out.trans (hb7.mono hbV2H.out.size)
        have hb67H := hid hb67
        have hz7 : w6.heap.size ≤ w7.heap.size := hb67.size
        clear hb7 hb67
        obtain ⟨V3, hV3⟩ : ∃ V3, V3 = w7.alloc (.cells #[.int .i64 0, .int .i64 5, .int .i64 0, .string ⟨#[]⟩, .string ⟨#[]⟩, .int .i64 1, .int .i64 6, .int .i64 (-1), .string ⟨#[]⟩, .string ⟨#[116, 105, 103, 104, 116]⟩, .int .i64 2, .int .i64 7, .int .i64 0, .string ⟨#[]⟩, .string ⟨#[]⟩, .int .i64 3, .int .i64 1, .int .i64 0, .string ⟨#[]⟩, .string ⟨#[]⟩, .int .i64 4, .int .i64 15, .int .i64 0, .string ⟨#[]⟩, .string ⟨#[]⟩, .int .i64 5, .int .i64 8, .int .i64 0, .string ⟨#[]⟩, .string SB, .int .i64 4, .int .i64 8, .int .i64 0, .string ⟨#[]⟩, .string ⟨#[32, 98]⟩] 36) := ⟨_, rfl⟩
        have hbV3 : Below w7.heap.size w7 V3 := by rw [hV3]; exact (Below.refl _ _).alloc (Nat.le_refl _) _
        have hlV3 : OwnsN w7.heap.size (some ⟨w7.heap.size, 0, none⟩) 7 [⟨0, 5, 0, ⟨#[]⟩, ⟨#[]⟩⟩, ⟨1, 6, (-1), ⟨#[]⟩, ⟨#[116, 105, 103, 104, 116]⟩⟩, ⟨2, 7, 0, ⟨#[]⟩, ⟨#[]⟩⟩, ⟨3, 1, 0, ⟨#[]⟩, ⟨#[]⟩⟩, ⟨4, 15, 0, ⟨#[]⟩, ⟨#[]⟩⟩, ⟨5, 8, 0, ⟨#[]⟩, SB⟩, ⟨4, 8, 0, ⟨#[]⟩, ⟨#[32, 98]⟩⟩] V3 := by rw [hV3]; exact lit_owns w7 [⟨0, 5, 0, ⟨#[]⟩, ⟨#[]⟩⟩, ⟨1, 6, (-1), ⟨#[]⟩, ⟨#[116, 105, 103, 104, 116]⟩⟩, ⟨2, 7, 0, ⟨#[]⟩, ⟨#[]⟩⟩, ⟨3, 1, 0, ⟨#[]⟩, ⟨#[]⟩⟩, ⟨4, 15, 0, ⟨#[]⟩, ⟨#[]⟩⟩, ⟨5, 8, 0, ⟨#[]⟩, SB⟩, ⟨4, 8, 0, ⟨#[]⟩, ⟨#[32, 98]⟩⟩] 7 rfl (by simp)
        have hS3 := hid (same_true B3 w7.heap.size a3 (some ⟨w7.heap.size, 0, none⟩) cp3 7 [⟨0, 5, 0, ⟨#[]⟩, ⟨#[]⟩⟩, ⟨1, 6, (-1), ⟨#[]⟩, ⟨#[116, 105, 103, 104, 116]⟩⟩, ⟨2, 7, 0, ⟨#[]⟩, ⟨#[]⟩⟩, ⟨3, 1, 0, ⟨#[]⟩, ⟨#[]⟩⟩, ⟨4, 15, 0, ⟨#[]⟩, ⟨#[]⟩⟩, ⟨5, 8, 0, ⟨#[]⟩, SB⟩, ⟨4, 8, 0, ⟨#[]⟩, ⟨#[32, 98]⟩⟩] V3 (((hown3H.out.below hb56H.out).below hb67H.out).below hbV3) hlV3 (by simp))
        have hV3H := hid hV3
        have hbV3H := hid hbV3
        have hzV3 : w7.heap.size ≤ V3.heap.size := hbV3.size
        clear hV3 hbV3 hlV3
        go_wp2_with fail
        rw [← hV3H.out]
        refine hS3.out.mono ?_
        rintro e w8 ⟨rfl, hb8⟩
        have hfin : Hid (Below w.heap.size w w8) := hid (by
          have hzr := hbr.out.size
          exact hbr.out.trans ((hb34.out.mono hzr).trans ((hb5H.out.mono (by omega)).trans ((hb56H.out.mono (by omega)).trans ((hb67H.out.mono (by omega)).trans ((hbV3H.out.mono (by omega)).trans (hb8.mono (by omega))))))))
        clear hb8
        go_wp2
        go_ret
        exact ⟨rfl, hfin.out⟩
      · skip
        have hcl2 := hrel'.out.1
        obtain ⟨sb, hsb⟩ : ∃ sb, S.B (97 :: cs) = sb := ⟨_, rfl⟩
        obtain ⟨tb, htb⟩ : ∃ tb, S.B (97 :: S.esc cs) = tb := ⟨_, rfl⟩
        have hsb1 : (1 : Int) ≤ (sb.size : Int) := by rw [← hsb, S.size_B, List.length_cons]; omega
        have htb1 : (1 : Int) ≤ (tb.size : Int) := by rw [← htb, S.size_B, List.length_cons]; omega
        obtain ⟨SB, hSB⟩ : ∃ SB, SB = sb.extract 1 sb.size ++ ⟨#[97]⟩ := ⟨_, rfl⟩
        obtain ⟨TB, hTB⟩ : ∃ TB, TB = tb.extract 1 tb.size ++ ⟨#[97]⟩ := ⟨_, rfl⟩
        have hSBe : S.B (escS cs) = SB := by
          rw [hSB, ← S.B_data (sb.extract 1 sb.size), S.drop_data, ← hsb, S.data_B, B_push]; rfl
        have hTBe : TB = S.B (escT cs) := by
          rw [hTB, ← S.B_data (tb.extract 1 tb.size), S.drop_data, ← htb, S.data_B, B_push]; rfl
        have hTd : TB.data.toList = escT cs := by rw [hTBe, S.data_B]
        have hTz : TB.size ≤ 700 := by rw [hTBe, S.size_B]; show (S.esc cs ++ [97]).length ≤ 700; rw [List.length_append]; have := hesl cs; simp; omega
        have hSg := hrel'.out.2.1
        have henvr : Env wr := henv1.out.below hrel'.out.2.2
        have hN1 : nodesOf TB.data.toList = [⟨0, 1, 0, ⟨#[]⟩, ⟨#[]⟩⟩, ⟨1, 8, 0, ⟨#[]⟩, SB⟩] := by rw [hTd, esc_nodes1 cs hSg, hSBe]
        have hN2 : nodesOf ((⟨#[35, 32]⟩ : ByteArray) ++ TB).data.toList = [⟨0, 2, 1, ⟨#[]⟩, ⟨#[]⟩⟩, ⟨1, 8, 0, ⟨#[]⟩, SB⟩] := by
          have e : ((⟨#[35, 32]⟩ : ByteArray) ++ TB).data.toList = 35 :: 32 :: escT cs := by rw [ByteArray.data_append, Array.toList_append, hTd]; rfl
          rw [e, esc_nodes2 cs hSg, hSBe]
        have hN3 : nodesOf ((⟨#[62, 32, 42, 32, 42, 42]⟩ : ByteArray) ++ TB ++ ⟨#[42, 42, 32, 98]⟩).data.toList = [⟨0, 5, 0, ⟨#[]⟩, ⟨#[]⟩⟩, ⟨1, 6, (-1), ⟨#[]⟩, ⟨#[116, 105, 103, 104, 116]⟩⟩, ⟨2, 7, 0, ⟨#[]⟩, ⟨#[]⟩⟩, ⟨3, 1, 0, ⟨#[]⟩, ⟨#[]⟩⟩, ⟨4, 15, 0, ⟨#[]⟩, ⟨#[]⟩⟩, ⟨5, 8, 0, ⟨#[]⟩, SB⟩, ⟨4, 8, 0, ⟨#[]⟩, ⟨#[32, 98]⟩⟩] := by
          have e : ((⟨#[62, 32, 42, 32, 42, 42]⟩ : ByteArray) ++ TB ++ ⟨#[42, 42, 32, 98]⟩).data.toList = escQ cs := by
            rw [ByteArray.data_append, ByteArray.data_append, Array.toList_append, Array.toList_append, hTd]; simp [escQ, S.quoted, starT]
          rw [e, esc_nodes3 cs hSg, hSBe]
        have hT1 := hid (tree_all TB wr (by omega) henvr)
        have hT2 := hid (fun (wx : World) (hx : Below wr.heap.size wr wx) => tree_all (⟨#[35, 32]⟩ ++ TB) wx (by rw [ByteArray.size_append]; show 2 + TB.size ≤ 1500; omega) (henvr.below hx))
        have hT3 := hid (fun (wx : World) (hx : Below wr.heap.size wr wx) => tree_all (⟨#[62, 32, 42, 32, 42, 42]⟩ ++ TB ++ ⟨#[42, 42, 32, 98]⟩) wx (by rw [ByteArray.size_append, ByteArray.size_append]; show 6 + TB.size + 4 ≤ 1500; omega) (henvr.below hx))
        rw [hN1] at hT1
        rw [hN2] at hT2
        rw [hN3] at hT3
        have hbr := hid (hb1H.out.trans (hrel'.out.2.2.mono hz1))
        have hSBH := hid hSB
        have hTBH := hid hTB
        rw [hsb] at hsz ⊢
        rw [htb] at htz ⊢
        have hTz2 : TB.size ≤ 700 := hTz
        clear hsb htb hSB hTB hSBe hTBe hTd hSg hN1 hN2 hN3 hesl hcl hcl2 henvr
        go_wp2_with fail
        rw [← hTBH.out, ← hSBH.out]
        refine hT1.out.mono ?_
        rintro e w3 ⟨B1, a1, cp1, rfl, hB1, hown1, hb3⟩
        have hT2' := hid (hT2.out w3 hb3)
        have hown1H := hid hown1
        have hb3H := hid hb3
        have hz3 : wr.heap.size ≤ w3.heap.size := hb3.size
        clear hown1 hb3
        go_wp2_with fail
        refine hT2'.out.mono ?_
        rintro e w4 ⟨B2, a2, cp2, rfl, hB2, hown2, hb4⟩
        have hb34 := hid (hb3H.out.trans (hb4.mono hz3))
        have hT3' := hid (hT3.out w4 hb34.out)
        have hown2H := hid hown2
        have hb4H := hid hb4
        have hz4 : w3.heap.size ≤ w4.heap.size := hb4.size
        clear hown2 hb4
        go_wp2_with fail
        refine hT3'.out.mono ?_
        rintro e w5 ⟨B3, a3, cp3, rfl, hB3, hown3, hb5⟩
        have hown3H := hid hown3
        have hb5H := hid hb5
        have hz5 : w4.heap.size ≤ w5.heap.size := hb5.size
        clear hown3 hb5
        obtain ⟨V1, hV1⟩ : ∃ V1, V1 = w5.alloc (.cells #[.int .i64 0, .int .i64 1, .int .i64 0, .string ⟨#[]⟩, .string ⟨#[]⟩, .int .i64 1, .int .i64 8, .int .i64 0, .string ⟨#[]⟩, .string SB] 36) := ⟨_, rfl⟩
        have hbV1 : Below w5.heap.size w5 V1 := by rw [hV1]; exact (Below.refl _ _).alloc (Nat.le_refl _) _
        have hlV1 : OwnsN w5.heap.size (some ⟨w5.heap.size, 0, none⟩) 2 [⟨0, 1, 0, ⟨#[]⟩, ⟨#[]⟩⟩, ⟨1, 8, 0, ⟨#[]⟩, SB⟩] V1 := by rw [hV1]; exact lit_owns w5 [⟨0, 1, 0, ⟨#[]⟩, ⟨#[]⟩⟩, ⟨1, 8, 0, ⟨#[]⟩, SB⟩] 2 rfl (by simp)
        have hS1 := hid (same_true B1 w5.heap.size a1 (some ⟨w5.heap.size, 0, none⟩) cp1 2 [⟨0, 1, 0, ⟨#[]⟩, ⟨#[]⟩⟩, ⟨1, 8, 0, ⟨#[]⟩, SB⟩] V1 (((hown1H.out.below hb4H.out).below hb5H.out).below hbV1) hlV1 (by simp))
        have hV1H := hid hV1
        have hbV1H := hid hbV1
        clear hV1 hbV1 hlV1
        go_wp2_with fail
        rw [← hV1H.out]
        refine hS1.out.mono ?_
        rintro e w6 ⟨rfl, hb6⟩
        have hb56 : Below w5.heap.size w5 w6 := hbV1H.out.trans (hb6.mono hbV1H.out.size)
        have hb56H := hid hb56
        have hz6 : w5.heap.size ≤ w6.heap.size := hb56.size
        clear hb6 hb56
        obtain ⟨V2, hV2⟩ : ∃ V2, V2 = w6.alloc (.cells #[.int .i64 0, .int .i64 2, .int .i64 1, .string ⟨#[]⟩, .string ⟨#[]⟩, .int .i64 1, .int .i64 8, .int .i64 0, .string ⟨#[]⟩, .string SB] 36) := ⟨_, rfl⟩
        have hbV2 : Below w6.heap.size w6 V2 := by rw [hV2]; exact (Below.refl _ _).alloc (Nat.le_refl _) _
        have hlV2 : OwnsN w6.heap.size (some ⟨w6.heap.size, 0, none⟩) 2 [⟨0, 2, 1, ⟨#[]⟩, ⟨#[]⟩⟩, ⟨1, 8, 0, ⟨#[]⟩, SB⟩] V2 := by rw [hV2]; exact lit_owns w6 [⟨0, 2, 1, ⟨#[]⟩, ⟨#[]⟩⟩, ⟨1, 8, 0, ⟨#[]⟩, SB⟩] 2 rfl (by simp)
        have hS2 := hid (same_true B2 w6.heap.size a2 (some ⟨w6.heap.size, 0, none⟩) cp2 2 [⟨0, 2, 1, ⟨#[]⟩, ⟨#[]⟩⟩, ⟨1, 8, 0, ⟨#[]⟩, SB⟩] V2 (((hown2H.out.below hb5H.out).below hb56H.out).below hbV2) hlV2 (by simp))
        have hV2H := hid hV2
        have hbV2H := hid hbV2
        clear hV2 hbV2 hlV2
        go_wp2_with fail
        rw [← hV2H.out]
        refine hS2.out.mono ?_
        rintro e w7 ⟨rfl, hb7⟩
        have hb67 : Below w6.heap.size w6 w7 := hbV2H.out.trans (hb7.mono hbV2H.out.size)
        have hb67H := hid hb67
        have hz7 : w6.heap.size ≤ w7.heap.size := hb67.size
        clear hb7 hb67
        obtain ⟨V3, hV3⟩ : ∃ V3, V3 = w7.alloc (.cells #[.int .i64 0, .int .i64 5, .int .i64 0, .string ⟨#[]⟩, .string ⟨#[]⟩, .int .i64 1, .int .i64 6, .int .i64 (-1), .string ⟨#[]⟩, .string ⟨#[116, 105, 103, 104, 116]⟩, .int .i64 2, .int .i64 7, .int .i64 0, .string ⟨#[]⟩, .string ⟨#[]⟩, .int .i64 3, .int .i64 1, .int .i64 0, .string ⟨#[]⟩, .string ⟨#[]⟩, .int .i64 4, .int .i64 15, .int .i64 0, .string ⟨#[]⟩, .string ⟨#[]⟩, .int .i64 5, .int .i64 8, .int .i64 0, .string ⟨#[]⟩, .string SB, .int .i64 4, .int .i64 8, .int .i64 0, .string ⟨#[]⟩, .string ⟨#[32, 98]⟩] 36) := ⟨_, rfl⟩
        have hbV3 : Below w7.heap.size w7 V3 := by rw [hV3]; exact (Below.refl _ _).alloc (Nat.le_refl _) _
        have hlV3 : OwnsN w7.heap.size (some ⟨w7.heap.size, 0, none⟩) 7 [⟨0, 5, 0, ⟨#[]⟩, ⟨#[]⟩⟩, ⟨1, 6, (-1), ⟨#[]⟩, ⟨#[116, 105, 103, 104, 116]⟩⟩, ⟨2, 7, 0, ⟨#[]⟩, ⟨#[]⟩⟩, ⟨3, 1, 0, ⟨#[]⟩, ⟨#[]⟩⟩, ⟨4, 15, 0, ⟨#[]⟩, ⟨#[]⟩⟩, ⟨5, 8, 0, ⟨#[]⟩, SB⟩, ⟨4, 8, 0, ⟨#[]⟩, ⟨#[32, 98]⟩⟩] V3 := by rw [hV3]; exact lit_owns w7 [⟨0, 5, 0, ⟨#[]⟩, ⟨#[]⟩⟩, ⟨1, 6, (-1), ⟨#[]⟩, ⟨#[116, 105, 103, 104, 116]⟩⟩, ⟨2, 7, 0, ⟨#[]⟩, ⟨#[]⟩⟩, ⟨3, 1, 0, ⟨#[]⟩, ⟨#[]⟩⟩, ⟨4, 15, 0, ⟨#[]⟩, ⟨#[]⟩⟩, ⟨5, 8, 0, ⟨#[]⟩, SB⟩, ⟨4, 8, 0, ⟨#[]⟩, ⟨#[32, 98]⟩⟩] 7 rfl (by simp)
        have hS3 := hid (same_true B3 w7.heap.size a3 (some ⟨w7.heap.size, 0, none⟩) cp3 7 [⟨0, 5, 0, ⟨#[]⟩, ⟨#[]⟩⟩, ⟨1, 6, (-1), ⟨#[]⟩, ⟨#[116, 105, 103, 104, 116]⟩⟩, ⟨2, 7, 0, ⟨#[]⟩, ⟨#[]⟩⟩, ⟨3, 1, 0, ⟨#[]⟩, ⟨#[]⟩⟩, ⟨4, 15, 0, ⟨#[]⟩, ⟨#[]⟩⟩, ⟨5, 8, 0, ⟨#[]⟩, SB⟩, ⟨4, 8, 0, ⟨#[]⟩, ⟨#[32, 98]⟩⟩] V3 (((hown3H.out.below hb56H.out).below hb67H.out).below hbV3) hlV3 (by simp))
        have hV3H := hid hV3
        have hbV3H := hid hbV3
        have hzV3 : w7.heap.size ≤ V3.heap.size := hbV3.size
        clear hV3 hbV3 hlV3
        go_wp2_with fail
        rw [← hV3H.out]
        refine hS3.out.mono ?_
        rintro e w8 ⟨rfl, hb8⟩
        have hfin : Hid (Below w.heap.size w w8) := hid (by
          have hzr := hbr.out.size
          exact hbr.out.trans ((hb34.out.mono hzr).trans ((hb5H.out.mono (by omega)).trans ((hb56H.out.mono (by omega)).trans ((hb67H.out.mono (by omega)).trans ((hbV3H.out.mono (by omega)).trans (hb8.mono (by omega))))))))
        clear hb8
        go_wp2
        go_ret
        exact ⟨rfl, hfin.out⟩
end Go.Proofs.YtlojgpkajkedeaaGreatDoor
