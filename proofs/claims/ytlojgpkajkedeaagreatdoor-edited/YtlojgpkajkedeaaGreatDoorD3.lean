import Derived.Test.YtlojgpkajkedeaaGreatDoorD1
import Derived.Deep.RegionHeld3
/- Runs, addresses, spans: contracts. -/
namespace Go.Proofs.YtlojgpkajkedeaaGreatDoor
open Go.RowKit
namespace S
def addrOf (l : List UInt8) : List UInt8 := (l.drop 1).take (addrSize [40, 41, 60, 62] (l.drop 1))
def addrOk (l : List UInt8) : Bool := Lib.hasPrefix l [40] && Lib.hasPrefix (l.drop (1 + addrSize [40, 41, 60, 62] (l.drop 1))) [41]
def colon (l : List UInt8) : Nat := 1 + letters (l.drop 1)
def angEnd (l : List UInt8) : Nat := colon l + addrSize [60, 62] (l.drop (colon l))
def angBad (l : List UInt8) : Bool := decide (letters (l.drop 1) < 2) || decide (8 < letters (l.drop 1)) || !Lib.hasPrefix (l.drop (colon l)) [58]
def angOk (l : List UInt8) : Bool := !angBad l && Lib.hasPrefix (l.drop (angEnd l)) [62]
def angAddr (l : List UInt8) : List UInt8 := (l.drop 1).take (angEnd l - 1)
/-- Where graves stand that are as many as those ahead: fuel, what is left, its place. -/
def spanEnd (size : Nat) : Nat → List UInt8 → Nat → Option Nat
  | 0, _, _ => none
  | _ + 1, [], _ => none
  | f + 1, b :: r, k => if b = 96 then (if cnt 96 (b :: r) = size then some k else spanEnd size f ((b :: r).drop (cnt 96 (b :: r))) (k + cnt 96 (b :: r))) else spanEnd size f r (k + 1)
def spanAt (l : List UInt8) (size : Nat) : Option Nat := spanEnd size (l.length + 1) (l.drop size) size
end S

set_option maxRecDepth 100000 in
set_option maxHeartbeats 2000000 in
theorem runOf_any (s : ByteArray) (k n : Nat) (w : World) (hs : s.size ≤ 1000000) (hk : k < s.size) (hn : k + n ≤ s.size) :
    Calls Tryz.prog 202 #[.string s, .int .i64 (k : Nat), .int .i64 (n : Nat)] w fun e w' => e = .returned (.agg #[.int .i64 (n : Nat), .bool (S.runOpens s.data.toList k n), .bool (S.runCloses s.data.toList k n)]) ∧ Below w.heap.size w w' := by
  have hg := S.get_data s k hk
  obtain ⟨p, hp⟩ : ∃ p, S.side s.data.toList ((k : Int) - 1) = p := ⟨_, rfl⟩
  obtain ⟨q, hq⟩ : ∃ q, S.side s.data.toList ((k + n : Nat) : Int) = q := ⟨_, rfl⟩
  have hpr : p = 0 ∨ p = 1 ∨ p = 2 := hp ▸ S.side_range _ _
  have hqr : q = 0 ∨ q = 1 ∨ q = 2 := hq ▸ S.side_range _ _
  have hA : Hid (∀ wx, Calls Tryz.prog 234 #[.string s, .int .i64 ((k : Int) - 1)] wx fun e w' => e = .returned (.int .i64 p) ∧ wx = w') := hid (fun wx => by have := sideAt_any s ((k : Int) - 1) wx (by omega) (by omega); rw [hp] at this; exact this)
  have hB : Hid (∀ wx, Calls Tryz.prog 234 #[.string s, .int .i64 ((k : Int) + (n : Int))] wx fun e w' => e = .returned (.int .i64 q) ∧ wx = w') := hid (fun wx => by have := sideAt_any s ((k + n : Nat) : Int) wx (by omega) (by omega); rw [hq] at this; exact this)
  have hL1 := hid (fun wx => leansTo_any q p wx hqr hpr)
  have hL2 := hid (fun wx => leansTo_any p q wx hpr hqr)
  obtain ⟨rt, hrt⟩ : ∃ rt, S.leans q p = rt := ⟨_, rfl⟩
  obtain ⟨lf, hlf⟩ : ∃ lf, S.leans p q = lf := ⟨_, rfl⟩
  rw [hrt] at hL1
  rw [hlf] at hL2
  have hb1 : Hid (∀ o, Below w.heap.size w (w.alloc o)) := hid (fun o => (Below.refl _ _).alloc (Nat.le_refl _) o)
  by_cases hx : s[k] = 42
  · have hxn : s[k].toNat = 42 := by rw [hx]; rfl
    have hO : Hid (S.runOpens s.data.toList k n = rt) := hid (by unfold S.runOpens; rw [hg, hx, if_pos rfl, hp, hq, hrt])
    have hC : Hid (S.runCloses s.data.toList k n = lf) := hid (by unfold S.runCloses; rw [hg, hx, if_pos rfl, hp, hq, hlf])
    rw [hO.out, hC.out]
    clear hx hg hp hq hpr hqr hrt hlf hO hC
    go_enter Tryz.func202, Tryz.ntmps202
    go_wp2_with fail
    refine (hA.out _).mono ?_
    rintro e w' ⟨rfl, rfl⟩
    go_wp2_with fail
    refine (hB.out _).mono ?_
    rintro e w' ⟨rfl, rfl⟩
    go_wp2_with fail
    refine (hL1.out _).mono ?_
    rintro e w' ⟨rfl, rfl⟩
    go_wp2_with fail
    refine (hL2.out _).mono ?_
    rintro e w' ⟨rfl, rfl⟩
    go_wp2
    exact bodyPost_ret (v := .agg #[.int .i64 (n : Nat), .bool rt, .bool lf]) (by simp [results, Tryz.results202, go_sem]) rfl ⟨rfl, hb1.out _⟩
  · have hxb : (((s[k].toNat : Nat) : Int) == 42) = false := by
      rw [beq_eq_false_iff_ne]; intro e; exact hx (UInt8.toNat_inj.1 (by show s[k].toNat = 42; omega))
    have hO : Hid (S.runOpens s.data.toList k n = (rt && (!lf || decide (p = 1)))) := hid (by unfold S.runOpens; rw [hg, if_neg (by simpa using hx), hp, hq, hrt, hlf])
    have hC : Hid (S.runCloses s.data.toList k n = (lf && (!rt || decide (q = 1)))) := hid (by unfold S.runCloses; rw [hg, if_neg (by simpa using hx), hp, hq, hrt, hlf])
    rw [hO.out, hC.out]
    clear hx hg hp hq hrt hlf hO hC
    have hp1 : (p == 1) = decide (p = 1) := by rw [Bool.eq_iff_iff, beq_iff_eq, decide_eq_true_iff]
    have hq1 : (q == 1) = decide (q = 1) := by rw [Bool.eq_iff_iff, beq_iff_eq, decide_eq_true_iff]
    generalize decide (p = 1) = bp at *
    generalize decide (q = 1) = bq at *
    clear hpr hqr
    cases rt <;> cases lf <;> cases bp <;> cases bq <;>
    · go_enter Tryz.func202, Tryz.ntmps202
      go_wp2_with fail
      refine (hA.out _).mono ?_
      rintro e w' ⟨rfl, rfl⟩
      go_wp2_with fail
      refine (hB.out _).mono ?_
      rintro e w' ⟨rfl, rfl⟩
      go_wp2_with fail
      refine (hL1.out _).mono ?_
      rintro e w' ⟨rfl, rfl⟩
      go_wp2_with fail
      refine (hL2.out _).mono ?_
      rintro e w' ⟨rfl, rfl⟩
      go_wp2
      exact bodyPost_ret (v := .agg #[.int .i64 (n : Nat), .bool _, .bool _]) (by simp [results, Tryz.results202, go_sem] <;> exact ⟨rfl, rfl⟩) rfl ⟨rfl, hb1.out _⟩

set_option maxRecDepth 100000 in
set_option maxHeartbeats 2000000 in
theorem fit_any (oz sz : Nat) (oo oc so sc : Bool) (w : World) (h1 : oz ≤ 1000000) (h2 : sz ≤ 1000000) :
    Calls Tryz.prog 243 #[.agg #[.int .i64 (oz : Nat), .bool oo, .bool oc], .agg #[.int .i64 (sz : Nat), .bool so, .bool sc]] w fun e w' => e = .returned (.bool (S.fits oz oc sz so)) ∧ Below w.heap.size w w' := by
  have hb1 : Hid (∀ o1 o2, Below w.heap.size w ((w.alloc o1).alloc o2)) := hid (fun o1 o2 => ((Below.refl _ _).alloc (Nat.le_refl _) o1).alloc (by simp) o2)
  cases oc <;> cases so
  · go_enter Tryz.func243, Tryz.ntmps243
    go_wp2
    go_ret
    exact ⟨rfl, hb1.out _ _⟩
  all_goals (
    by_cases e1 : oz % 3 = 0 <;> by_cases e2 : sz % 3 = 0 <;> by_cases e3 : (oz + sz) % 3 = 0
    all_goals (first | omega | (
      have i1 : ((oz : Int) % 3 == 0) = decide (oz % 3 = 0) := by rw [Bool.eq_iff_iff, beq_iff_eq, decide_eq_true_iff]; omega
      have i2 : ((sz : Int) % 3 == 0) = decide (sz % 3 = 0) := by rw [Bool.eq_iff_iff, beq_iff_eq, decide_eq_true_iff]; omega
      have i3 : (((oz : Int) + (sz : Int)) % 3 == 0) = decide ((oz + sz) % 3 = 0) := by rw [Bool.eq_iff_iff, beq_iff_eq, decide_eq_true_iff]; omega
      simp only [e1, e2, e3] at i1 i2 i3
      have e1H := hid e1
      have e2H := hid e2
      have e3H := hid e3
      clear e1 e2 e3
      go_enter Tryz.func243, Tryz.ntmps243
      go_wp2
      go_ret
      exact ⟨ret_bool (by have e1 := e1H.out; have e2 := e2H.out; have e3 := e3H.out; simp [S.fits, e1, e2, e3] <;> omega), hb1.out _ _⟩)))

end Go.Proofs.YtlojgpkajkedeaaGreatDoor
