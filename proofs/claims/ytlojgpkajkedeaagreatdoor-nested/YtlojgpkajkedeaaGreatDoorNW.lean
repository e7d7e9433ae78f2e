/- Nested: the walk of the statement. -/
import Derived.Test.YtlojgpkajkedeaaGreatDoorXW
import Derived.Test.YtlojgpkajkedeaaGreatDoorNT
namespace Go.Proofs.YtlojgpkajkedeaaGreatDoor
open Go.RowKit

set_option maxHeartbeats 2000000 in
theorem pick_n (m : Int) (c : Int) (w : World) (hm : 0 < m) (hm2 : m ≤ 1000) (h1 : -9223372036854775808 ≤ c) (h2 : c ≤ 9223372036854775807) :
    Calls Tryz.prog 21 #[.int .i64 c, .int .i64 m] w fun e w' => ∃ p : Nat, (p : Int) < m ∧ e = .returned (.int .i64 (p : Nat)) ∧ w = w' := by
  by_cases hc : c < 0
  · obtain ⟨p, hp⟩ : ∃ p : Nat, -((c + 1).tmod m) = (p : Int) := ⟨(-((c + 1).tmod m)).toNat, by
      rw [← Int.neg_tmod, Int.tmod_eq_emod_of_nonneg (by omega)]; have := Int.emod_nonneg (-(c + 1)) (show m ≠ 0 by omega); omega⟩
    have hpm : (p : Int) < m := by rw [← hp, ← Int.neg_tmod, Int.tmod_eq_emod_of_nonneg (by omega)]; exact Int.emod_lt_of_pos _ hm
    have hpH := hid hp
    have hm0 : m ≠ 0 := by omega
    clear hp
    go_enter Tryz.func21, Tryz.ntmps21
    go_wp2
    go_ret
    refine ⟨p, hpm, ?_, rfl⟩
    rw [← hpH.out]; rfl
  · obtain ⟨p, hp⟩ : ∃ p : Nat, c % m = (p : Int) := ⟨(c % m).toNat, by have := Int.emod_nonneg c (show m ≠ 0 by omega); omega⟩
    have hpm : (p : Int) < m := by rw [← hp]; exact Int.emod_lt_of_pos _ hm
    have hpH := hid hp
    have hm0 : m ≠ 0 := by omega
    clear hp
    go_enter Tryz.func21, Tryz.ntmps21
    go_wp2
    go_ret
    refine ⟨p, hpm, ?_, rfl⟩
    rw [← hpH.out]; rfl

theorem ndN_pos (t : Nst) : 0 < (ndN t).length := by
  cases t with
  | x => rw [nd_x]; simp
  | em m t => rw [nd_em]; simp
  | st m t => rw [nd_st]; simp
  | li t => rw [nd_li]; simp
  | im t => rw [nd_im]; simp
theorem nd_one (l : List Nd) : ∀ u ∈ ndCells l, u.oneCell' = true := by
  intro u hu
  unfold ndCells at hu
  obtain ⟨c, hc, huc⟩ := List.mem_flatten.1 hu
  obtain ⟨x, _, rfl⟩ := List.mem_map.1 hc
  simp [five] at huc; rcases huc with rfl | rfl | rfl | rfl | rfl <;> rfl
theorem ownsN_ne {B : Nat} {g0 o0 : Nat} {cp : Nat} {l : List Nd} {w : World} (h : OwnsN B (some ⟨g0, o0, none⟩) cp l w) (N o : Nat) (v : Value) (hN : N ≠ g0) : OwnsN B (some ⟨g0, o0, none⟩) cp l (w.setCell ⟨N, o, none⟩ v) := by
  have hg : w.grownBy (w.setCell ⟨N, o, none⟩ v) (some N) := ⟨rfl, rfl, rfl, by simp [World.setCell], fun k _ hne => Below.heap_setCell _ _ _ _ (fun e => hne (by rw [e]))⟩
  refine World.ownsRow.kept h hg ?_
  cases ho : (Value.slice (some ⟨g0, o0, none⟩) l.length cp).ownBlock with
  | none => exact .inl rfl
  | some g => exact .inr (by have : g0 = g := by simpa [Value.ownBlock] using ho
                             subst this; simp; omega)
theorem ndN_kind (t : Nst) (h : t ≠ .x) : ∃ d k n i s r, ndN t = ⟨d, k, n, i, s⟩ :: r ∧ k ≠ 8 := by
  cases t with
  | x => exact absurd rfl h
  | em m t => exact ⟨_, _, _, _, _, _, nd_em m t, by decide⟩
  | st m t => exact ⟨_, _, _, _, _, _, nd_st m t, by decide⟩
  | li t => exact ⟨_, _, _, _, _, _, nd_li t, by decide⟩
  | im t => exact ⟨_, _, _, _, _, _, nd_im t, by decide⟩
theorem ownsN_free {B g cp : Nat} {l : List Nd} {w : World} (h : OwnsN B (some ⟨g, 0, none⟩) cp l w) (i : Nat) : w.frozen? ⟨g, i, none⟩ = false := by
  rcases h.2 with ⟨h, _⟩ | ⟨g', cap, cur, he, _, hb, _⟩
  · exact absurd h (by simp)
  · obtain rfl : g = g' := by simp at he; exact he.1
    exact free_blk hb i
theorem str_bxc : (⟨#[98, 32]⟩ : ByteArray) ++ ⟨#[120]⟩ ++ ⟨#[32, 99]⟩ = S.B bxc := by
  apply ByteArray.ext; simp [bxc, S.B, ByteArray.data_append]
theorem five_set (w : World) (g : Nat) (s0 s1 : ByteArray) (c0 : w.cell? ⟨g, 0, none⟩ = some (.int .i64 1)) (c1 : w.cell? ⟨g, 1, none⟩ = some (.int .i64 8)) (c2 : w.cell? ⟨g, 2, none⟩ = some (.int .i64 0)) (c3 : w.cell? ⟨g, 3, none⟩ = some (.string ⟨#[]⟩)) (c4 : w.cell? ⟨g, 4, none⟩ = some (.string s0)) :
    ∀ j u, (five ⟨1, 8, 0, ⟨#[]⟩, s1⟩)[j]? = some u → (w.setCell ⟨g, 4, none⟩ (.string s1)).cell? ((⟨g, 0, none⟩ : Addr).add j) = some u := by
  intro j u hj
  have ha : (⟨g, 0, none⟩ : Addr).add j = ⟨g, j, none⟩ := by
    simp only [Addr.add]; split
    · rename_i h; simp <;> omega
    · simp <;> omega
  rw [ha]
  match j, hj with
  | 0, hj => rw [World.cell?_setCell_other _ _ _ _ (by simp), c0]; simpa [five] using hj
  | 1, hj => rw [World.cell?_setCell_other _ _ _ _ (by simp), c1]; simpa [five] using hj
  | 2, hj => rw [World.cell?_setCell_other _ _ _ _ (by simp), c2]; simpa [five] using hj
  | 3, hj => rw [World.cell?_setCell_other _ _ _ _ (by simp), c3]; simpa [five] using hj
  | 4, hj => rw [World.cell?_setCell_same _ _ _ c4]; simpa [five] using hj
  | j + 5, hj => simp [five] at hj
theorem five_one (x : Nd) : ∀ u ∈ five x, u.oneCell' = true := by
  intro u hu; simp [five] at hu; rcases hu with rfl | rfl | rfl | rfl | rfl <;> rfl
/-- One round: what is put around. -/
def ConN (t t' : Nst) (hd : Nd) : Prop := wfN t' ∧ ndN t' = hd :: ptsNds 1 (joinT (dI t)) ∧ hd.depth = 0 ∧ (txtN t').length ≤ (txtN t).length + 12
theorem con_len (t t' : Nst) (hd : Nd) (h : ConN t t' hd) : (ndN t').length ≤ (ndN t).length + 3 := by
  rw [h.2.1]
  by_cases hx : t = .x
  · subst hx; rw [nd_in_x]; simp
  · rw [nd_in t hx]; simp
theorem con_depth (t t' : Nst) (hd : Nd) (k : Nat) (h : ConN t t' hd) (hk : ∀ x ∈ ndN t, 0 ≤ x.depth ∧ x.depth ≤ (k : Int)) : ∀ x ∈ ndN t', 0 ≤ x.depth ∧ x.depth ≤ ((k + 1 : Nat) : Int) := by
  rw [h.2.1]
  intro x hx
  rcases List.mem_cons.1 hx with rfl | hx
  · rw [h.2.2.1]; omega
  · by_cases ht : t = .x
    · subst ht; rw [nd_in_x] at hx; simp at hx; subst hx; dsimp only; omega
    · rw [nd_in t ht] at hx
      simp only [List.mem_cons, List.mem_append, List.mem_map, List.mem_nil_iff, or_false] at hx
      rcases hx with rfl | ⟨y, hy, rfl⟩ | rfl
      · simp only [bNd]; omega
      · have := hk y hy; simp only [Nd.deep]; omega
      · simp only [cNd]; omega

set_option maxRecDepth 100000 in
set_option maxHeartbeats 8000000 in
theorem nested_any (ra : Option Addr) (zs : List Int) (rc : Nat) (w : World) (hraw : RawIn ra zs w) (henv : Env w) :
    Calls Tryz.prog 9 #[.slice ra zs.length rc] w fun e w' => e = .returned (.bool true) ∧ Below w.heap.size w w' := by
  obtain ⟨i0, hi, hz0, hz1', hz2'⟩ := info_parts Tryz.infoNode
  have hRd := hid (reading_any w henv)
  have henvH := hid henv
  have hrawH := hid hraw
  clear henv hraw
  go_enter Tryz.func9, Tryz.ntmps9
  go_wp2_with fail
  refine hRd.out.mono ?_
  rintro e w1 ⟨rfl, hb1⟩
  have henv1 := hid (henvH.out.below hb1)
  have hb1H := hid hb1
  have hz1 : w.heap.size ≤ w1.heap.size := hb1.size
  clear hb1
  go_wp2
  go_loopw [4, 5, 6, 7] (fun tv lv lk i wr => ∃ (k : Nat) (t : Nst) (a : Option Addr) (cp : Nat), k ≤ zs.length ∧ k ≤ 12 ∧ tv = .string (S.B (txtN t)) ∧ lv = .slice a (ndN t).length cp ∧ lk = .bool (hasL t) ∧ i = .int .i64 k ∧ Hid (wfN t ∧ OwnsN w1.heap.size a cp (ndN t) wr ∧ (txtN t).length ≤ 1 + 12 * k ∧ (ndN t).length ≤ 1 + 3 * k ∧ (∀ x ∈ ndN t, 0 ≤ x.depth ∧ x.depth ≤ (k : Int)) ∧ Below w1.heap.size w1 wr)) (fun _ _ _ i _ => 12 - (intOf i).toNat)
  case atStart =>
    exact ⟨0, .x, some ⟨w1.heap.size, 0, none⟩, 1, Nat.zero_le _, Nat.zero_le _, rfl, rfl, rfl, rfl, hid ⟨trivial, lit_owns w1 [⟨0, 8, 0, ⟨#[]⟩, ⟨#[120]⟩⟩] 1 rfl (by simp), by simp [txtN], by rw [nd_x]; simp, by rw [nd_x]; simp, (Below.refl _ _).alloc (Nat.le_refl _) _⟩⟩
  case round =>
    obtain ⟨k, t, a, cp, hkz, hk3, rfl, rfl, rfl, rfl, hrel'⟩ := hrel
    have hszr : w1.heap.size ≤ wr.heap.size := hrel'.out.2.2.2.2.2.size
    have htz : (S.B (txtN t)).size ≤ 1000 := by rw [S.size_B]; have := hrel'.out.2.2.1; omega
    have hnz : (ndN t).length ≤ 1000 := by have := hrel'.out.2.2.2.1; omega
    obtain ⟨tb, htb⟩ : ∃ tb, S.B (txtN t) = tb := ⟨_, rfl⟩
    obtain ⟨lk, hlk⟩ : ∃ lk, hasL t = lk := ⟨_, rfl⟩
    obtain ⟨nl, hnl⟩ : ∃ nl, (ndN t).length = nl := ⟨_, rfl⟩
    rw [htb] at htz ⊢
    rw [hlk, hnl]
    rw [hnl] at hnz
    have htbH := hid htb
    have hlkH := hid hlk
    have hnlH := hid hnl
    clear htb hlk hnl
    by_cases hlt : k < zs.length ∧ k < 12
    · obtain ⟨hlz, hl3⟩ := hlt
      obtain ⟨z, hzk⟩ : ∃ z, zs[k]? = some z := ⟨zs[k], List.getElem?_eq_getElem hlz⟩
      obtain ⟨rb, ro, rfl, hrb, hcell, hzb1, hzb2⟩ := hrawH.out k z hzk
      have hcellr : wr.cell? ⟨rb, ro + k, none⟩ = some (.int .i64 z) := by
        rw [hrel'.out.2.2.2.2.2.cell (p := ⟨rb, ro + k, none⟩) (by show rb < _; omega), hb1H.out.cell (p := ⟨rb, ro + k, none⟩) hrb]; exact hcell
      obtain ⟨zq, hzq⟩ : ∃ zq : Int, z.tdiv 8 = zq := ⟨_, rfl⟩
      have hzq1 : -9223372036854775808 ≤ zq ∧ zq ≤ 9223372036854775807 := by
        rw [← hzq]
        rcases Int.le_total 0 z with h | h
        · rw [Int.tdiv_eq_ediv_of_nonneg h]; omega
        · obtain ⟨y, rfl⟩ : ∃ y : Int, z = -y := ⟨-z, by omega⟩
          rw [Int.neg_tdiv, Int.tdiv_eq_ediv_of_nonneg (by omega)]; omega
      have hP2 := hid (pick_n 2 zq wr (by omega) (by omega) (by omega) (by omega))
      have hP6 := hid (pick_n 6 z wr (by omega) (by omega) hzb1 hzb2)
      have e1 : (k : Int) < (zs.length : Int) := by omega
      have e2 : (k : Int) < 12 := by omega
      have e3 : (0 : Int) ≤ (k : Int) := by omega
      clear hzk hcell
      --ROUND
      go_upto_if 38 with (refine hP2.out.mono ?_; rintro e w' ⟨p, hp2, rfl, rfl⟩)
      go_cut [8] (fun s8 wx => ∃ m : UInt8, (m = 42 ∨ m = 95) ∧ s8 = .string ⟨#[m]⟩ ∧ wr = wx)
      case first =>
        by_cases hp1 : (p : Int) = 1
        · go_wp2
          go_meet
          exact ⟨95, .inr rfl, rfl, rfl⟩
        · go_wp2
          go_meet
          exact ⟨42, .inl rfl, rfl, rfl⟩
      case rest =>
        obtain ⟨m, hm, rfl, rfl⟩ := hcut
        go_upto_region 12 with (refine hP6.out.mono ?_; rintro e w' ⟨q, hq6, rfl, rfl⟩)
        go_cut [48] (fun s48 wx => s48 = .bool (decide ((q : Int) = 4) && lk) ∧ wr = wx)
        case first =>
          by_cases hq4 : (q : Int) = 4
          · go_wp2
            go_meet
            exact ⟨by rw [decide_eq_true hq4]; rfl, rfl⟩
          · go_wp2
            go_meet
            exact ⟨by rw [decide_eq_false hq4]; rfl, rfl⟩
        case rest =>
        obtain ⟨rfl, rfl⟩ := hcut
        go_upto_if 48 with fail
        go_cut [9] (fun s9 wx => ∃ q' : Nat, q' < 6 ∧ (lk = true → q' ≠ 4) ∧ s9 = .int .i64 (q' : Nat) ∧ wr = wx)
        case first =>
          by_cases hq4 : (decide ((q : Int) = 4) && lk) = true
          · rw [hq4]
            go_wp2
            go_meet
            exact ⟨5, by omega, by omega, rfl, rfl⟩
          · rw [Bool.eq_false_iff.2 hq4]
            have hqq : Hid (q < 6 ∧ (lk = true → q ≠ 4)) := hid ⟨by omega, fun hl h => hq4 (by rw [hl, h]; rfl)⟩
            clear hq4
            go_wp2
            go_meet
            exact ⟨q, hqq.out.1, hqq.out.2, rfl, rfl⟩
        case rest =>
        obtain ⟨q', hq6', hq4', rfl, rfl⟩ := hcut
        have hq4H := hid hq4'
        have hmH := hid hm
        clear hq4' hm
        rcases (show (q' < 2) ∨ (2 ≤ q' ∧ q' < 4) ∨ q' = 4 ∨ q' = 5 by omega) with hq | hq | hq | hq
        · obtain ⟨t', ht'⟩ : ∃ t', t' = Nst.em m t := ⟨_, rfl⟩
          have hwf0 := hrel'.out.1
          have hcon : Hid (ConN t t' ⟨0, 14, 0, ⟨#[]⟩, ⟨#[]⟩⟩) := hid ⟨by rw [ht']; exact ⟨hmH.out, hwf0⟩, by rw [ht']; exact nd_em _ _, rfl, by rw [ht']; simp [txtN] <;> omega⟩
          have hhl : Hid (hasL t' = lk) := hid (by rw [ht']; exact hlkH.out)
          have htx : Hid ((⟨#[m]⟩ : ByteArray) ++ ⟨#[98, 32]⟩ ++ tb ++ ⟨#[32, 99]⟩ ++ ⟨#[m]⟩ = S.B (txtN t')) := hid (by rw [ht', ← htbH.out]; apply ByteArray.ext; simp [txtN, S.B, ByteArray.data_append])
          clear hwf0 ht'
          have hnext : Hid (∀ ax cx wx, OwnsN w1.heap.size ax cx (ndN t') wx → Below w1.heap.size w1 wx → wfN t' ∧ OwnsN w1.heap.size ax cx (ndN t') wx ∧ (txtN t').length ≤ 1 + 12 * (k + 1) ∧ (ndN t').length ≤ 1 + 3 * (k + 1) ∧ (∀ x ∈ ndN t', 0 ≤ x.depth ∧ x.depth ≤ ((k + 1 : Nat) : Int)) ∧ Below w1.heap.size w1 wx) := hid (fun ax cx wx h1 h2 => ⟨hcon.out.1, h1, by have := hcon.out.2.2.2; have := hrel'.out.2.2.1; omega, by have := con_len _ _ _ hcon.out; have := hrel'.out.2.2.2.1; omega, con_depth _ _ _ k hcon.out hrel'.out.2.2.2.2.1, h2⟩)
          go_upto_region 26 with fail
          rw [htx.out]
          obtain ⟨tx, htxx⟩ : ∃ tx, S.B (txtN t') = tx := ⟨_, rfl⟩
          rw [htxx]
          have htxH := hid htxx
          clear htxx htx
          have hown0 := hrel'.out.2.1
          have hdp := hrel'.out.2.2.2.2.1
          have hNpos0 := ndN_pos t
          obtain ⟨N, hNN⟩ : ∃ N, ndN t = N := ⟨_, rfl⟩
          have hnl2 := hnlH.out
          rw [hNN] at hown0 hdp hNpos0 hnl2
          subst hnl2
          have hNpos : 0 < N.length := hNpos0
          have hNNH := hid hNN
          have hdpH : Hid (∀ x ∈ N, 0 ≤ x.depth ∧ x.depth < 1000000) := hid (fun x hx => by have := hdp x hx; omega)
          obtain ⟨W, hW⟩ : ∃ W, W = (wr.alloc (.cells #[.int .i64 0, .int .i64 14, .int .i64 0, .string ⟨#[]⟩, .string ⟨#[]⟩] 36)).alloc (.cells #[.int .i64 0, .int .i64 14, .int .i64 0, .string ⟨#[]⟩, .string ⟨#[]⟩] 36) := ⟨_, rfl⟩
          have hbW : Below wr.heap.size wr W := by rw [hW]; exact ((Below.refl _ _).alloc (Nat.le_refl _) _).alloc (by simp) _
          have hsW : Hid (W.heap.size = wr.heap.size + 2) := hid (by rw [hW]; simp)
          have hownW : OwnsN w1.heap.size (some ⟨wr.heap.size + 1, 0, none⟩) 1 [⟨0, 14, 0, ⟨#[]⟩, ⟨#[]⟩⟩] W := by
            have hs1 : (wr.alloc (.cells #[.int .i64 0, .int .i64 14, .int .i64 0, .string ⟨#[]⟩, .string ⟨#[]⟩] 36)).heap.size = wr.heap.size + 1 := by simp
            refine ⟨rfl, .inr ⟨wr.heap.size + 1, 1, _, rfl, by omega, by rw [hW, ← hs1]; exact alloc_new _ _, Nat.le_refl _, by decide, rfl, rfl⟩⟩
          have hD := hid (deeper_any w1.heap.size a cp N W (hown0.below hbW) (by omega) hdpH.out)
          have hbWH := hid hbW
          have hownWH := hid hownW
          clear hbW hownW hown0 hdp hNpos0 hNN
          go_wp2_with fail
          rw [← hW]
          clear hW
          refine hD.out.mono ?_
          rintro e w5 ⟨a5, cp5, rfl, hown5, hb5, h50⟩
          have hsW' := hsW.out
          have hbr5 : Below w1.heap.size w1 w5 := hrel'.out.2.2.2.2.2.trans ((hbWH.out.mono hszr).trans (hb5.mono (by omega)))
          have hz5 : wr.heap.size + 2 ≤ w5.heap.size := by have := hb5.size; omega
          have hownW5 : OwnsN w1.heap.size (some ⟨wr.heap.size + 1, 0, none⟩) 1 [⟨0, 14, 0, ⟨#[]⟩, ⟨#[]⟩⟩] w5 := hownWH.out.below hb5
          obtain ⟨g5, rfl, hg5, hcp5, _⟩ := OwnsN.some hown5 (by rw [List.length_map]; exact hNpos)
          have hg52 : wr.heap.size + 2 ≤ g5 := by omega
          have hg5l : g5 < w5.heap.size := (World.ownsRow.lt hown5 g5 rfl).2
          have hbr5H := hid hbr5
          have hownW5H := hid hownW5
          by_cases htx0 : t = .x
          · have hN1 : N = [⟨0, 8, 0, ⟨#[]⟩, ⟨#[120]⟩⟩] := by rw [← hNNH.out, htx0, nd_x]
            subst hN1
            obtain ⟨g6, hg6, _, _, c0, c1, c2, c3, c4⟩ := ownsN_at hown5 0 ⟨1, 8, 0, ⟨#[]⟩, ⟨#[120]⟩⟩ rfl
            obtain rfl : g5 = g6 := by simpa using hg6
            dsimp only at c0 c1 c2 c3 c4
            have hfz : w5.frozen? ⟨g5, 4, none⟩ = false := ownsN_free hown5 4
            have hnewX := hid (five_set w5 g5 ⟨#[120]⟩ (⟨#[98, 32]⟩ ++ ⟨#[120]⟩ ++ ⟨#[32, 99]⟩) c0 c1 c2 c3 c4)
            clear hsW' hbr5 hownW5 hown5 hb5 h50 hD hcp5 hg6
            go_upto_region 34 with fail
            obtain ⟨w6, hw6⟩ : ∃ w6, w6 = w5.setCell ⟨g5, 4, none⟩ (.string (⟨#[98, 32]⟩ ++ ⟨#[120]⟩ ++ ⟨#[32, 99]⟩)) := ⟨_, rfl⟩
            rw [← hw6]
            rw [← hw6] at hnewX
            have hownM6 : Hid (w6.ownsRow w1.heap.size 36 5 (.slice (some ⟨wr.heap.size + 1, 0, none⟩) 1 1) 1 (ndCells [⟨0, 14, 0, ⟨#[]⟩, ⟨#[]⟩⟩])) := hid (by rw [hw6]; exact ownsN_ne hownW5H.out g5 4 _ (by omega))
            have hb6 : Hid (Below w1.heap.size w1 w6) := hid (by rw [hw6]; exact hbr5H.out.setCell (by show w1.heap.size ≤ g5; omega) _)
            have hbase6 : w1.heap.size ≤ w6.heap.size := hb6.out.size
            clear hw6
            go_wp2_with (at_builtin; refine wpList_append_lies _ (by rfl) _ _ 22 (by rfl) w1.heap.size 36 i0 (.agg #[.int .i64 0, .int .i64 0, .int .i64 0, .string ⟨#[]⟩, .string ⟨#[]⟩]) 5 56 Tryz.underlying22 hi hz0 hz1' hz2' (by rfl) (by omega) (.slice (some ⟨wr.heap.size + 1, 0, none⟩) 1 1) 1 (ndCells [⟨0, 14, 0, ⟨#[]⟩, ⟨#[]⟩⟩]) (by rfl) hownM6.out ⟨g5, 0, none⟩ 1 cp5 (five ⟨1, 8, 0, ⟨#[]⟩, ⟨#[98, 32]⟩ ++ ⟨#[120]⟩ ++ ⟨#[32, 99]⟩⟩) (by rfl) (by rfl) hnewX.out (five_one _) (by omega) (by unfold maxLen; omega) (by omega) hbase6 w6.heap.size (by rfl) ?_)
            intro g cap1 w7 hown7 hgrow hat hltg
            have hb7 : Hid (Below w1.heap.size w1 w7) := hid (Below.grown hb6.out hgrow hbase6 (fun q hq => by
              have : wr.heap.size + 1 = q := by simpa [Value.ownBlock] using hq
              omega))
            have hnd : ndN t' = [⟨0, 14, 0, ⟨#[]⟩, ⟨#[]⟩⟩, ⟨1, 8, 0, ⟨#[]⟩, ⟨#[98, 32]⟩ ++ ⟨#[120]⟩ ++ ⟨#[32, 99]⟩⟩] := by rw [hcon.out.2.1, htx0, nd_in_x, str_bxc]
            have hlen : Hid ((ndN t').length = 1 + 1) := hid (by rw [hnd]; rfl)
            have hown8 : Hid (OwnsN w1.heap.size (some ⟨g, 0, none⟩) cap1 (ndN t') w7) := hid (by
              unfold OwnsN; rw [hnd]; exact hown7)
            clear hown7 hgrow hat hltg hnd
            go_wp2
            go_roundw
            case rel => exact ⟨k + 1, t', some ⟨g, 0, none⟩, cap1, by omega, by omega, by rw [htxH.out], congrArg (fun n => Value.slice (some ⟨g, 0, none⟩) n cap1) hlen.out.symm, by rw [hhl.out], by go_num, hid (hnext.out _ _ _ hown8.out hb7.out)⟩
            case measure => simp [intOf]; omega
          · obtain ⟨hd0, hk0, hn0, hi0', hs0, hr0, hNe, hk8⟩ := ndN_kind t htx0
            have hN1 : N = ⟨hd0, hk0, hn0, hi0', hs0⟩ :: hr0 := by rw [← hNNH.out, hNe]
            obtain ⟨g6, hg6, _, _, c0, c1, c2, c3, c4⟩ := ownsN_at hown5 0 ⟨hd0 + 1, hk0, hn0, hi0', hs0⟩ (by rw [hN1]; rfl)
            obtain rfl : g5 = g6 := by simpa using hg6
            dsimp only at c0 c1 c2 c3 c4
            have hown5H := hid hown5
            have hN1H := hid hN1
            clear hsW' hbr5 hownW5 hown5 hb5 h50 hD hcp5 hg6 hN1 hNe
            have hk8' : ¬ hk0 = 8 := hk8
            go_upto_region 32 with fail
            have hV3 : Hid (∀ wx : World, True) := hid (fun _ => trivial)
            have hownM : Hid (∀ o1 o2 o3, (((w5.alloc o1).alloc o2).alloc o3).ownsRow w1.heap.size 36 5 (.slice (some ⟨wr.heap.size + 1, 0, none⟩) 1 1) 1 (ndCells [⟨0, 14, 0, ⟨#[]⟩, ⟨#[]⟩⟩])) := hid (fun o1 o2 o3 => OwnsN.alloc (OwnsN.alloc (OwnsN.alloc hownW5H.out o1) o2) o3)
            have hnewB : Hid (∀ X1 X2 j u, (five bNd)[j]? = some u → (((w5.alloc X1).alloc X2).alloc (.cells #[.int .i64 1, .int .i64 8, .int .i64 0, .string ⟨#[]⟩, .string ⟨#[98, 32]⟩] 36)).cell? ((⟨w5.heap.size + 2, 0, none⟩ : Addr).add j) = some u) := hid (by
              intro X1 X2 j u hj
              have hsz : ((w5.alloc X1).alloc X2).heap.size = w5.heap.size + 2 := by simp
              have ha : (⟨w5.heap.size + 2, 0, none⟩ : Addr).add j = ⟨((w5.alloc X1).alloc X2).heap.size, j, none⟩ := by
                rw [hsz]; simp only [Addr.add]; split
                · rename_i h; simp <;> omega
                · simp <;> omega
              rw [ha]
              exact cell_blk (alloc_new _ _) j u (by rw [← hj]; simp [five, bNd]))
            have honeB : Hid (∀ u ∈ five bNd, u.oneCell' = true) := hid (by
              intro u hu; simp [five] at hu; rcases hu with rfl | rfl | rfl | rfl | rfl <;> rfl)
            have hbaseM : w1.heap.size ≤ w5.heap.size := by omega
            go_wp2_with (at_builtin; refine wpList_append_lies _ (by rfl) _ _ 22 (by rfl) w1.heap.size 36 i0 (.agg #[.int .i64 0, .int .i64 0, .int .i64 0, .string ⟨#[]⟩, .string ⟨#[]⟩]) 5 56 Tryz.underlying22 hi hz0 hz1' hz2' (by rfl) (by omega) (.slice (some ⟨wr.heap.size + 1, 0, none⟩) 1 1) 1 (ndCells [⟨0, 14, 0, ⟨#[]⟩, ⟨#[]⟩⟩]) (by rfl) (hownM.out _ _ _) ⟨w5.heap.size + 2, 0, none⟩ 1 1 (five bNd) (by rfl) (by rfl) (hnewB.out _ _) honeB.out (by omega) (by unfold maxLen; omega) (by omega) (by simp; omega) (w5.heap.size + 3) (by simp) ?_)
            intro g cap1 w6 hown6 hgrow hat hltg
            have hsz3 : (((w5.alloc (.cells #[.int .i64 1, .int .i64 8, .int .i64 0, .string ⟨#[]⟩, .string ⟨#[98, 32]⟩] 36)).alloc (.cells #[.int .i64 1, .int .i64 8, .int .i64 0, .string ⟨#[]⟩, .string ⟨#[32, 99]⟩] 36)).alloc (.cells #[.int .i64 1, .int .i64 8, .int .i64 0, .string ⟨#[]⟩, .string ⟨#[98, 32]⟩] 36)).heap.size = w5.heap.size + 3 := by simp
            have hgg : g ≠ g5 ∧ wr.heap.size + 1 ≤ g := by
              rcases hat with hat | hat
              · have : wr.heap.size + 1 = g := by simpa [Value.ownBlock] using hat
                omega
              · omega
            have hb6 : Hid (Below w1.heap.size w1 w6) := hid (Below.grown (((hbr5H.out.alloc hbaseM _).alloc (by simp; omega) _).alloc (by simp; omega) _) hgrow (by simp; omega) (fun q hq => by
              have : wr.heap.size + 1 = q := by simpa [Value.ownBlock] using hq
              omega))
            have hz6 : w5.heap.size + 3 ≤ w6.heap.size := by have := hgrow.4; rw [hsz3] at this; exact this
            have hblkC : w6.heap[w5.heap.size + 1]? = some (.cells #[.int .i64 1, .int .i64 8, .int .i64 0, .string ⟨#[]⟩, .string ⟨#[32, 99]⟩] 36) := by
              have h1 := hgrow.5 (w5.heap.size + 1) (by rw [hsz3]; omega) (by simp [Value.ownBlock]; omega)
              have h2 := ((Below.refl ((w5.alloc (.cells #[.int .i64 1, .int .i64 8, .int .i64 0, .string ⟨#[]⟩, .string ⟨#[98, 32]⟩] 36)).alloc (.cells #[.int .i64 1, .int .i64 8, .int .i64 0, .string ⟨#[]⟩, .string ⟨#[32, 99]⟩] 36)).heap.size ((w5.alloc (.cells #[.int .i64 1, .int .i64 8, .int .i64 0, .string ⟨#[]⟩, .string ⟨#[98, 32]⟩] 36)).alloc (.cells #[.int .i64 1, .int .i64 8, .int .i64 0, .string ⟨#[]⟩, .string ⟨#[32, 99]⟩] 36))).alloc (Nat.le_refl _) (.cells #[.int .i64 1, .int .i64 8, .int .i64 0, .string ⟨#[]⟩, .string ⟨#[98, 32]⟩] 36)).block (w5.heap.size + 1) (by simp)
              have h3 := alloc_new (w5.alloc (.cells #[.int .i64 1, .int .i64 8, .int .i64 0, .string ⟨#[]⟩, .string ⟨#[98, 32]⟩] 36)) (.cells #[.int .i64 1, .int .i64 8, .int .i64 0, .string ⟨#[]⟩, .string ⟨#[32, 99]⟩] 36)
              rw [show (w5.alloc (.cells #[.int .i64 1, .int .i64 8, .int .i64 0, .string ⟨#[]⟩, .string ⟨#[98, 32]⟩] 36)).heap.size = w5.heap.size + 1 by simp] at h3
              rw [h1, h2, h3]
            have hownI6 : Hid (∀ o1, (w6.alloc o1).ownsRow W.heap.size 36 5 (.slice (some ⟨g5, 0, none⟩) N.length cp5) N.length (ndCells (N.map Nd.deep))) := hid (fun o1 => by
              have h1 := World.ownsRow.kept (OwnsN.alloc (OwnsN.alloc (OwnsN.alloc hown5H.out (.cells #[.int .i64 1, .int .i64 8, .int .i64 0, .string ⟨#[]⟩, .string ⟨#[98, 32]⟩] 36)) (.cells #[.int .i64 1, .int .i64 8, .int .i64 0, .string ⟨#[]⟩, .string ⟨#[32, 99]⟩] 36)) (.cells #[.int .i64 1, .int .i64 8, .int .i64 0, .string ⟨#[]⟩, .string ⟨#[98, 32]⟩] 36)) hgrow (.inr (by simp [Value.ownBlock]; omega))
              have h2 := World.ownsRow.alloc h1 o1
              rwa [List.length_map] at h2)
            have hownM6 : Hid (OwnsN w1.heap.size (some ⟨g, 0, none⟩) cap1 [⟨0, 14, 0, ⟨#[]⟩, ⟨#[]⟩⟩, bNd] w6) := hid (by
              unfold OwnsN; exact hown6)
            have d0 := cell_blk hblkC 0 _ rfl
            have d1 := cell_blk hblkC 1 _ rfl
            have d2 := cell_blk hblkC 2 _ rfl
            have d3 := cell_blk hblkC 3 _ rfl
            have d4 := cell_blk hblkC 4 _ rfl
            have hnewC : Hid (∀ j u, (five cNd)[j]? = some u → (w6.alloc (.cells #[.int .i64 1, .int .i64 8, .int .i64 0, .string ⟨#[]⟩, .string ⟨#[32, 99]⟩] 36)).cell? ((⟨w6.heap.size, 0, none⟩ : Addr).add j) = some u) := hid (by
              intro j u hj
              have ha : (⟨w6.heap.size, 0, none⟩ : Addr).add j = ⟨w6.heap.size, j, none⟩ := by
                simp only [Addr.add]; split
                · rename_i h; simp <;> omega
                · simp <;> omega
              rw [ha]
              exact cell_blk (alloc_new _ _) j u (by rw [← hj]; simp [five, cNd]))
            have hWz : W.heap.size ≤ w6.heap.size := by have := hsW.out; omega
            have hb6z : w1.heap.size ≤ w6.heap.size := by omega
            have hgl6 : g < w6.heap.size := hltg
            clear hown6 hgrow hat hltg hblkC hsz3
            go_wp2_with (at_builtin; refine wpList_append_lies _ (by rfl) _ _ 22 (by rfl) W.heap.size 36 i0 (.agg #[.int .i64 0, .int .i64 0, .int .i64 0, .string ⟨#[]⟩, .string ⟨#[]⟩]) 5 56 Tryz.underlying22 hi hz0 hz1' hz2' (by rfl) (by omega) (.slice (some ⟨g5, 0, none⟩) N.length cp5) N.length (ndCells (N.map Nd.deep)) (by rfl) (hownI6.out _) ⟨w6.heap.size, 0, none⟩ 1 1 (five cNd) (by rfl) (by rfl) hnewC.out (five_one _) (by omega) (by unfold maxLen; omega) (by omega) (by simp; omega) (w6.heap.size + 1) (by simp) ?_)
            intro g7 cap7 w7 hown7 hgrow7 hat7 hltg7
            have hsz6 : (w6.alloc (.cells #[.int .i64 1, .int .i64 8, .int .i64 0, .string ⟨#[]⟩, .string ⟨#[32, 99]⟩] 36)).heap.size = w6.heap.size + 1 := by simp
            have hb7 : Hid (Below w1.heap.size w1 w7) := hid (Below.grown (hb6.out.alloc hb6z _) hgrow7 (by simp; omega) (fun q hq => by
              have : g5 = q := by simpa [Value.ownBlock] using hq
              omega))
            have hz7 : w6.heap.size + 1 ≤ w7.heap.size := by have := hgrow7.4; rw [hsz6] at this; exact this
            have hownM7 : Hid (w7.ownsRow w1.heap.size 36 5 (.slice (some ⟨g, 0, none⟩) 2 cap1) 2 (ndCells [⟨0, 14, 0, ⟨#[]⟩, ⟨#[]⟩⟩, bNd])) := hid (World.ownsRow.kept (OwnsN.alloc hownM6.out (.cells #[.int .i64 1, .int .i64 8, .int .i64 0, .string ⟨#[]⟩, .string ⟨#[32, 99]⟩] 36)) hgrow7 (.inr (by simp [Value.ownBlock]; omega)))
            have hnews7 : Hid (∀ j u, (ndCells (N.map Nd.deep) ++ five cNd)[j]? = some u → w7.cell? ((⟨g7, 0, none⟩ : Addr).add j) = some u) := hid (fun j u hu => World.ownsRow.cells hown7 (g := g7) rfl j u hu)
            have hlen7 : Hid ((ndCells (N.map Nd.deep) ++ five cNd).length = (N.length + 1) * 5) := hid hown7.1
            have hone7 : Hid (∀ u ∈ ndCells (N.map Nd.deep) ++ five cNd, u.oneCell' = true) := hid (by
              rw [← ndCells_snoc]; exact nd_one _)
            have hb7z : w1.heap.size ≤ w7.heap.size := by omega
            clear hown7 hgrow7 hat7 hltg7 hsz6
            go_wp2_with (at_builtin; refine wpList_append_lies _ (by rfl) _ _ 22 (by rfl) w1.heap.size 36 i0 (.agg #[.int .i64 0, .int .i64 0, .int .i64 0, .string ⟨#[]⟩, .string ⟨#[]⟩]) 5 56 Tryz.underlying22 hi hz0 hz1' hz2' (by rfl) (by omega) (.slice (some ⟨g, 0, none⟩) 2 cap1) 2 (ndCells [⟨0, 14, 0, ⟨#[]⟩, ⟨#[]⟩⟩, bNd]) (by rfl) hownM7.out ⟨g7, 0, none⟩ (N.length + 1) cap7 (ndCells (N.map Nd.deep) ++ five cNd) (by rfl) hlen7.out hnews7.out hone7.out (by omega) (by unfold maxLen; omega) (by omega) hb7z w7.heap.size (by rfl) ?_)
            intro g8 cap8 w8 hown8 hgrow8 hat8 hltg8
            have hb8 : Hid (Below w1.heap.size w1 w8) := hid (Below.grown hb7.out hgrow8 hb7z (fun q hq => by
              have : g = q := by simpa [Value.ownBlock] using hq
              omega))
            have hnd : ndN t' = [⟨0, 14, 0, ⟨#[]⟩, ⟨#[]⟩⟩, bNd] ++ (N.map Nd.deep ++ [cNd]) := by rw [hcon.out.2.1, nd_in t htx0, hNNH.out]; rfl
            have hlen : Hid ((ndN t').length = 2 + (N.length + 1)) := hid (by rw [hnd]; simp <;> omega)
            have hown9 : Hid (OwnsN w1.heap.size (some ⟨g8, 0, none⟩) cap8 (ndN t') w8) := hid (by
              unfold OwnsN; rw [hlen.out, hnd, show ndCells ([⟨0, 14, 0, ⟨#[]⟩, ⟨#[]⟩⟩, bNd] ++ (N.map Nd.deep ++ [cNd])) = ndCells [⟨0, 14, 0, ⟨#[]⟩, ⟨#[]⟩⟩, bNd] ++ (ndCells (N.map Nd.deep) ++ five cNd) by simp [ndCells]]; exact hown8)
            clear hown8 hgrow8 hat8 hltg8 hnd
            go_wp2
            go_roundw
            case rel => exact ⟨k + 1, t', some ⟨g8, 0, none⟩, cap8, by omega, by omega, by rw [htxH.out], congrArg (fun n => Value.slice (some ⟨g8, 0, none⟩) n cap8) hlen.out.symm, by rw [hhl.out], by go_num, hid (hnext.out _ _ _ hown9.out hb8.out)⟩
            case measure => simp [intOf]; omega
        · obtain ⟨t', ht'⟩ : ∃ t', t' = Nst.st m t := ⟨_, rfl⟩
          have hwf0 := hrel'.out.1
          have hcon : Hid (ConN t t' ⟨0, 15, 0, ⟨#[]⟩, ⟨#[]⟩⟩) := hid ⟨by rw [ht']; exact ⟨hmH.out, hwf0⟩, by rw [ht']; exact nd_st _ _, rfl, by rw [ht']; simp [txtN] <;> omega⟩
          have hhl : Hid (hasL t' = lk) := hid (by rw [ht']; exact hlkH.out)
          have htx : Hid ((⟨#[m]⟩ : ByteArray) ++ ⟨#[m]⟩ ++ ⟨#[98, 32]⟩ ++ tb ++ ⟨#[32, 99]⟩ ++ ⟨#[m]⟩ ++ ⟨#[m]⟩ = S.B (txtN t')) := hid (by rw [ht', ← htbH.out]; apply ByteArray.ext; simp [txtN, S.B, ByteArray.data_append])
          clear hwf0 ht'
          have hnext : Hid (∀ ax cx wx, OwnsN w1.heap.size ax cx (ndN t') wx → Below w1.heap.size w1 wx → wfN t' ∧ OwnsN w1.heap.size ax cx (ndN t') wx ∧ (txtN t').length ≤ 1 + 12 * (k + 1) ∧ (ndN t').length ≤ 1 + 3 * (k + 1) ∧ (∀ x ∈ ndN t', 0 ≤ x.depth ∧ x.depth ≤ ((k + 1 : Nat) : Int)) ∧ Below w1.heap.size w1 wx) := hid (fun ax cx wx h1 h2 => ⟨hcon.out.1, h1, by have := hcon.out.2.2.2; have := hrel'.out.2.2.1; omega, by have := con_len _ _ _ hcon.out; have := hrel'.out.2.2.2.1; omega, con_depth _ _ _ k hcon.out hrel'.out.2.2.2.2.1, h2⟩)
          go_upto_region 26 with fail
          rw [htx.out]
          obtain ⟨tx, htxx⟩ : ∃ tx, S.B (txtN t') = tx := ⟨_, rfl⟩
          rw [htxx]
          have htxH := hid htxx
          clear htxx htx
          have hown0 := hrel'.out.2.1
          have hdp := hrel'.out.2.2.2.2.1
          have hNpos0 := ndN_pos t
          obtain ⟨N, hNN⟩ : ∃ N, ndN t = N := ⟨_, rfl⟩
          have hnl2 := hnlH.out
          rw [hNN] at hown0 hdp hNpos0 hnl2
          subst hnl2
          have hNpos : 0 < N.length := hNpos0
          have hNNH := hid hNN
          have hdpH : Hid (∀ x ∈ N, 0 ≤ x.depth ∧ x.depth < 1000000) := hid (fun x hx => by have := hdp x hx; omega)
          obtain ⟨W, hW⟩ : ∃ W, W = (wr.alloc (.cells #[.int .i64 0, .int .i64 15, .int .i64 0, .string ⟨#[]⟩, .string ⟨#[]⟩] 36)).alloc (.cells #[.int .i64 0, .int .i64 15, .int .i64 0, .string ⟨#[]⟩, .string ⟨#[]⟩] 36) := ⟨_, rfl⟩
          have hbW : Below wr.heap.size wr W := by rw [hW]; exact ((Below.refl _ _).alloc (Nat.le_refl _) _).alloc (by simp) _
          have hsW : Hid (W.heap.size = wr.heap.size + 2) := hid (by rw [hW]; simp)
          have hownW : OwnsN w1.heap.size (some ⟨wr.heap.size + 1, 0, none⟩) 1 [⟨0, 15, 0, ⟨#[]⟩, ⟨#[]⟩⟩] W := by
            have hs1 : (wr.alloc (.cells #[.int .i64 0, .int .i64 15, .int .i64 0, .string ⟨#[]⟩, .string ⟨#[]⟩] 36)).heap.size = wr.heap.size + 1 := by simp
            refine ⟨rfl, .inr ⟨wr.heap.size + 1, 1, _, rfl, by omega, by rw [hW, ← hs1]; exact alloc_new _ _, Nat.le_refl _, by decide, rfl, rfl⟩⟩
          have hD := hid (deeper_any w1.heap.size a cp N W (hown0.below hbW) (by omega) hdpH.out)
          have hbWH := hid hbW
          have hownWH := hid hownW
          clear hbW hownW hown0 hdp hNpos0 hNN
          go_wp2_with fail
          rw [← hW]
          clear hW
          refine hD.out.mono ?_
          rintro e w5 ⟨a5, cp5, rfl, hown5, hb5, h50⟩
          have hsW' := hsW.out
          have hbr5 : Below w1.heap.size w1 w5 := hrel'.out.2.2.2.2.2.trans ((hbWH.out.mono hszr).trans (hb5.mono (by omega)))
          have hz5 : wr.heap.size + 2 ≤ w5.heap.size := by have := hb5.size; omega
          have hownW5 : OwnsN w1.heap.size (some ⟨wr.heap.size + 1, 0, none⟩) 1 [⟨0, 15, 0, ⟨#[]⟩, ⟨#[]⟩⟩] w5 := hownWH.out.below hb5
          obtain ⟨g5, rfl, hg5, hcp5, _⟩ := OwnsN.some hown5 (by rw [List.length_map]; exact hNpos)
          have hg52 : wr.heap.size + 2 ≤ g5 := by omega
          have hg5l : g5 < w5.heap.size := (World.ownsRow.lt hown5 g5 rfl).2
          have hbr5H := hid hbr5
          have hownW5H := hid hownW5
          by_cases htx0 : t = .x
          · have hN1 : N = [⟨0, 8, 0, ⟨#[]⟩, ⟨#[120]⟩⟩] := by rw [← hNNH.out, htx0, nd_x]
            subst hN1
            obtain ⟨g6, hg6, _, _, c0, c1, c2, c3, c4⟩ := ownsN_at hown5 0 ⟨1, 8, 0, ⟨#[]⟩, ⟨#[120]⟩⟩ rfl
            obtain rfl : g5 = g6 := by simpa using hg6
            dsimp only at c0 c1 c2 c3 c4
            have hfz : w5.frozen? ⟨g5, 4, none⟩ = false := ownsN_free hown5 4
            have hnewX := hid (five_set w5 g5 ⟨#[120]⟩ (⟨#[98, 32]⟩ ++ ⟨#[120]⟩ ++ ⟨#[32, 99]⟩) c0 c1 c2 c3 c4)
            clear hsW' hbr5 hownW5 hown5 hb5 h50 hD hcp5 hg6
            go_upto_region 34 with fail
            obtain ⟨w6, hw6⟩ : ∃ w6, w6 = w5.setCell ⟨g5, 4, none⟩ (.string (⟨#[98, 32]⟩ ++ ⟨#[120]⟩ ++ ⟨#[32, 99]⟩)) := ⟨_, rfl⟩
            rw [← hw6]
            rw [← hw6] at hnewX
            have hownM6 : Hid (w6.ownsRow w1.heap.size 36 5 (.slice (some ⟨wr.heap.size + 1, 0, none⟩) 1 1) 1 (ndCells [⟨0, 15, 0, ⟨#[]⟩, ⟨#[]⟩⟩])) := hid (by rw [hw6]; exact ownsN_ne hownW5H.out g5 4 _ (by omega))
            have hb6 : Hid (Below w1.heap.size w1 w6) := hid (by rw [hw6]; exact hbr5H.out.setCell (by show w1.heap.size ≤ g5; omega) _)
            have hbase6 : w1.heap.size ≤ w6.heap.size := hb6.out.size
            clear hw6
            go_wp2_with (at_builtin; refine wpList_append_lies _ (by rfl) _ _ 22 (by rfl) w1.heap.size 36 i0 (.agg #[.int .i64 0, .int .i64 0, .int .i64 0, .string ⟨#[]⟩, .string ⟨#[]⟩]) 5 56 Tryz.underlying22 hi hz0 hz1' hz2' (by rfl) (by omega) (.slice (some ⟨wr.heap.size + 1, 0, none⟩) 1 1) 1 (ndCells [⟨0, 15, 0, ⟨#[]⟩, ⟨#[]⟩⟩]) (by rfl) hownM6.out ⟨g5, 0, none⟩ 1 cp5 (five ⟨1, 8, 0, ⟨#[]⟩, ⟨#[98, 32]⟩ ++ ⟨#[120]⟩ ++ ⟨#[32, 99]⟩⟩) (by rfl) (by rfl) hnewX.out (five_one _) (by omega) (by unfold maxLen; omega) (by omega) hbase6 w6.heap.size (by rfl) ?_)
            intro g cap1 w7 hown7 hgrow hat hltg
            have hb7 : Hid (Below w1.heap.size w1 w7) := hid (Below.grown hb6.out hgrow hbase6 (fun q hq => by
              have : wr.heap.size + 1 = q := by simpa [Value.ownBlock] using hq
              omega))
            have hnd : ndN t' = [⟨0, 15, 0, ⟨#[]⟩, ⟨#[]⟩⟩, ⟨1, 8, 0, ⟨#[]⟩, ⟨#[98, 32]⟩ ++ ⟨#[120]⟩ ++ ⟨#[32, 99]⟩⟩] := by rw [hcon.out.2.1, htx0, nd_in_x, str_bxc]
            have hlen : Hid ((ndN t').length = 1 + 1) := hid (by rw [hnd]; rfl)
            have hown8 : Hid (OwnsN w1.heap.size (some ⟨g, 0, none⟩) cap1 (ndN t') w7) := hid (by
              unfold OwnsN; rw [hnd]; exact hown7)
            clear hown7 hgrow hat hltg hnd
            go_wp2
            go_roundw
            case rel => exact ⟨k + 1, t', some ⟨g, 0, none⟩, cap1, by omega, by omega, by rw [htxH.out], congrArg (fun n => Value.slice (some ⟨g, 0, none⟩) n cap1) hlen.out.symm, by rw [hhl.out], by go_num, hid (hnext.out _ _ _ hown8.out hb7.out)⟩
            case measure => simp [intOf]; omega
          · obtain ⟨hd0, hk0, hn0, hi0', hs0, hr0, hNe, hk8⟩ := ndN_kind t htx0
            have hN1 : N = ⟨hd0, hk0, hn0, hi0', hs0⟩ :: hr0 := by rw [← hNNH.out, hNe]
            obtain ⟨g6, hg6, _, _, c0, c1, c2, c3, c4⟩ := ownsN_at hown5 0 ⟨hd0 + 1, hk0, hn0, hi0', hs0⟩ (by rw [hN1]; rfl)
            obtain rfl : g5 = g6 := by simpa using hg6
            dsimp only at c0 c1 c2 c3 c4
            have hown5H := hid hown5
            have hN1H := hid hN1
            clear hsW' hbr5 hownW5 hown5 hb5 h50 hD hcp5 hg6 hN1 hNe
            have hk8' : ¬ hk0 = 8 := hk8
            go_upto_region 32 with fail
            have hV3 : Hid (∀ wx : World, True) := hid (fun _ => trivial)
            have hownM : Hid (∀ o1 o2 o3, (((w5.alloc o1).alloc o2).alloc o3).ownsRow w1.heap.size 36 5 (.slice (some ⟨wr.heap.size + 1, 0, none⟩) 1 1) 1 (ndCells [⟨0, 15, 0, ⟨#[]⟩, ⟨#[]⟩⟩])) := hid (fun o1 o2 o3 => OwnsN.alloc (OwnsN.alloc (OwnsN.alloc hownW5H.out o1) o2) o3)
            have hnewB : Hid (∀ X1 X2 j u, (five bNd)[j]? = some u → (((w5.alloc X1).alloc X2).alloc (.cells #[.int .i64 1, .int .i64 8, .int .i64 0, .string ⟨#[]⟩, .string ⟨#[98, 32]⟩] 36)).cell? ((⟨w5.heap.size + 2, 0, none⟩ : Addr).add j) = some u) := hid (by
              intro X1 X2 j u hj
              have hsz : ((w5.alloc X1).alloc X2).heap.size = w5.heap.size + 2 := by simp
              have ha : (⟨w5.heap.size + 2, 0, none⟩ : Addr).add j = ⟨((w5.alloc X1).alloc X2).heap.size, j, none⟩ := by
                rw [hsz]; simp only [Addr.add]; split
                · rename_i h; simp <;> omega
                · simp <;> omega
              rw [ha]
              exact cell_blk (alloc_new _ _) j u (by rw [← hj]; simp [five, bNd]))
            have honeB : Hid (∀ u ∈ five bNd, u.oneCell' = true) := hid (by
              intro u hu; simp [five] at hu; rcases hu with rfl | rfl | rfl | rfl | rfl <;> rfl)
            have hbaseM : w1.heap.size ≤ w5.heap.size := by omega
            go_wp2_with (at_builtin; refine wpList_append_lies _ (by rfl) _ _ 22 (by rfl) w1.heap.size 36 i0 (.agg #[.int .i64 0, .int .i64 0, .int .i64 0, .string ⟨#[]⟩, .string ⟨#[]⟩]) 5 56 Tryz.underlying22 hi hz0 hz1' hz2' (by rfl) (by omega) (.slice (some ⟨wr.heap.size + 1, 0, none⟩) 1 1) 1 (ndCells [⟨0, 15, 0, ⟨#[]⟩, ⟨#[]⟩⟩]) (by rfl) (hownM.out _ _ _) ⟨w5.heap.size + 2, 0, none⟩ 1 1 (five bNd) (by rfl) (by rfl) (hnewB.out _ _) honeB.out (by omega) (by unfold maxLen; omega) (by omega) (by simp; omega) (w5.heap.size + 3) (by simp) ?_)
            intro g cap1 w6 hown6 hgrow hat hltg
            have hsz3 : (((w5.alloc (.cells #[.int .i64 1, .int .i64 8, .int .i64 0, .string ⟨#[]⟩, .string ⟨#[98, 32]⟩] 36)).alloc (.cells #[.int .i64 1, .int .i64 8, .int .i64 0, .string ⟨#[]⟩, .string ⟨#[32, 99]⟩] 36)).alloc (.cells #[.int .i64 1, .int .i64 8, .int .i64 0, .string ⟨#[]⟩, .string ⟨#[98, 32]⟩] 36)).heap.size = w5.heap.size + 3 := by simp
            have hgg : g ≠ g5 ∧ wr.heap.size + 1 ≤ g := by
              rcases hat with hat | hat
              · have : wr.heap.size + 1 = g := by simpa [Value.ownBlock] using hat
                omega
              · omega
            have hb6 : Hid (Below w1.heap.size w1 w6) := hid (Below.grown (((hbr5H.out.alloc hbaseM _).alloc (by simp; omega) _).alloc (by simp; omega) _) hgrow (by simp; omega) (fun q hq => by
              have : wr.heap.size + 1 = q := by simpa [Value.ownBlock] using hq
              omega))
            have hz6 : w5.heap.size + 3 ≤ w6.heap.size := by have := hgrow.4; rw [hsz3] at this; exact this
            have hblkC : w6.heap[w5.heap.size + 1]? = some (.cells #[.int .i64 1, .int .i64 8, .int .i64 0, .string ⟨#[]⟩, .string ⟨#[32, 99]⟩] 36) := by
              have h1 := hgrow.5 (w5.heap.size + 1) (by rw [hsz3]; omega) (by simp [Value.ownBlock]; omega)
              have h2 := ((Below.refl ((w5.alloc (.cells #[.int .i64 1, .int .i64 8, .int .i64 0, .string ⟨#[]⟩, .string ⟨#[98, 32]⟩] 36)).alloc (.cells #[.int .i64 1, .int .i64 8, .int .i64 0, .string ⟨#[]⟩, .string ⟨#[32, 99]⟩] 36)).heap.size ((w5.alloc (.cells #[.int .i64 1, .int .i64 8, .int .i64 0, .string ⟨#[]⟩, .string ⟨#[98, 32]⟩] 36)).alloc (.cells #[.int .i64 1, .int .i64 8, .int .i64 0, .string ⟨#[]⟩, .string ⟨#[32, 99]⟩] 36))).alloc (Nat.le_refl _) (.cells #[.int .i64 1, .int .i64 8, .int .i64 0, .string ⟨#[]⟩, .string ⟨#[98, 32]⟩] 36)).block (w5.heap.size + 1) (by simp)
              have h3 := alloc_new (w5.alloc (.cells #[.int .i64 1, .int .i64 8, .int .i64 0, .string ⟨#[]⟩, .string ⟨#[98, 32]⟩] 36)) (.cells #[.int .i64 1, .int .i64 8, .int .i64 0, .string ⟨#[]⟩, .string ⟨#[32, 99]⟩] 36)
              rw [show (w5.alloc (.cells #[.int .i64 1, .int .i64 8, .int .i64 0, .string ⟨#[]⟩, .string ⟨#[98, 32]⟩] 36)).heap.size = w5.heap.size + 1 by simp] at h3
              rw [h1, h2, h3]
            have hownI6 : Hid (∀ o1, (w6.alloc o1).ownsRow W.heap.size 36 5 (.slice (some ⟨g5, 0, none⟩) N.length cp5) N.length (ndCells (N.map Nd.deep))) := hid (fun o1 => by
              have h1 := World.ownsRow.kept (OwnsN.alloc (OwnsN.alloc (OwnsN.alloc hown5H.out (.cells #[.int .i64 1, .int .i64 8, .int .i64 0, .string ⟨#[]⟩, .string ⟨#[98, 32]⟩] 36)) (.cells #[.int .i64 1, .int .i64 8, .int .i64 0, .string ⟨#[]⟩, .string ⟨#[32, 99]⟩] 36)) (.cells #[.int .i64 1, .int .i64 8, .int .i64 0, .string ⟨#[]⟩, .string ⟨#[98, 32]⟩] 36)) hgrow (.inr (by simp [Value.ownBlock]; omega))
              have h2 := World.ownsRow.alloc h1 o1
              rwa [List.length_map] at h2)
            have hownM6 : Hid (OwnsN w1.heap.size (some ⟨g, 0, none⟩) cap1 [⟨0, 15, 0, ⟨#[]⟩, ⟨#[]⟩⟩, bNd] w6) := hid (by
              unfold OwnsN; exact hown6)
            have d0 := cell_blk hblkC 0 _ rfl
            have d1 := cell_blk hblkC 1 _ rfl
            have d2 := cell_blk hblkC 2 _ rfl
            have d3 := cell_blk hblkC 3 _ rfl
            have d4 := cell_blk hblkC 4 _ rfl
            have hnewC : Hid (∀ j u, (five cNd)[j]? = some u → (w6.alloc (.cells #[.int .i64 1, .int .i64 8, .int .i64 0, .string ⟨#[]⟩, .string ⟨#[32, 99]⟩] 36)).cell? ((⟨w6.heap.size, 0, none⟩ : Addr).add j) = some u) := hid (by
              intro j u hj
              have ha : (⟨w6.heap.size, 0, none⟩ : Addr).add j = ⟨w6.heap.size, j, none⟩ := by
                simp only [Addr.add]; split
                · rename_i h; simp <;> omega
                · simp <;> omega
              rw [ha]
              exact cell_blk (alloc_new _ _) j u (by rw [← hj]; simp [five, cNd]))
            have hWz : W.heap.size ≤ w6.heap.size := by have := hsW.out; omega
            have hb6z : w1.heap.size ≤ w6.heap.size := by omega
            have hgl6 : g < w6.heap.size := hltg
            clear hown6 hgrow hat hltg hblkC hsz3
            go_wp2_with (at_builtin; refine wpList_append_lies _ (by rfl) _ _ 22 (by rfl) W.heap.size 36 i0 (.agg #[.int .i64 0, .int .i64 0, .int .i64 0, .string ⟨#[]⟩, .string ⟨#[]⟩]) 5 56 Tryz.underlying22 hi hz0 hz1' hz2' (by rfl) (by omega) (.slice (some ⟨g5, 0, none⟩) N.length cp5) N.length (ndCells (N.map Nd.deep)) (by rfl) (hownI6.out _) ⟨w6.heap.size, 0, none⟩ 1 1 (five cNd) (by rfl) (by rfl) hnewC.out (five_one _) (by omega) (by unfold maxLen; omega) (by omega) (by simp; omega) (w6.heap.size + 1) (by simp) ?_)
            intro g7 cap7 w7 hown7 hgrow7 hat7 hltg7
            have hsz6 : (w6.alloc (.cells #[.int .i64 1, .int .i64 8, .int .i64 0, .string ⟨#[]⟩, .string ⟨#[32, 99]⟩] 36)).heap.size = w6.heap.size + 1 := by simp
            have hb7 : Hid (Below w1.heap.size w1 w7) := hid (Below.grown (hb6.out.alloc hb6z _) hgrow7 (by simp; omega) (fun q hq => by
              have : g5 = q := by simpa [Value.ownBlock] using hq
              omega))
            have hz7 : w6.heap.size + 1 ≤ w7.heap.size := by have := hgrow7.4; rw [hsz6] at this; exact this
            have hownM7 : Hid (w7.ownsRow w1.heap.size 36 5 (.slice (some ⟨g, 0, none⟩) 2 cap1) 2 (ndCells [⟨0, 15, 0, ⟨#[]⟩, ⟨#[]⟩⟩, bNd])) := hid (World.ownsRow.kept (OwnsN.alloc hownM6.out (.cells #[.int .i64 1, .int .i64 8, .int .i64 0, .string ⟨#[]⟩, .string ⟨#[32, 99]⟩] 36)) hgrow7 (.inr (by simp [Value.ownBlock]; omega)))
            have hnews7 : Hid (∀ j u, (ndCells (N.map Nd.deep) ++ five cNd)[j]? = some u → w7.cell? ((⟨g7, 0, none⟩ : Addr).add j) = some u) := hid (fun j u hu => World.ownsRow.cells hown7 (g := g7) rfl j u hu)
            have hlen7 : Hid ((ndCells (N.map Nd.deep) ++ five cNd).length = (N.length + 1) * 5) := hid hown7.1
            have hone7 : Hid (∀ u ∈ ndCells (N.map Nd.deep) ++ five cNd, u.oneCell' = true) := hid (by
              rw [← ndCells_snoc]; exact nd_one _)
            have hb7z : w1.heap.size ≤ w7.heap.size := by omega
            clear hown7 hgrow7 hat7 hltg7 hsz6
            go_wp2_with (at_builtin; refine wpList_append_lies _ (by rfl) _ _ 22 (by rfl) w1.heap.size 36 i0 (.agg #[.int .i64 0, .int .i64 0, .int .i64 0, .string ⟨#[]⟩, .string ⟨#[]⟩]) 5 56 Tryz.underlying22 hi hz0 hz1' hz2' (by rfl) (by omega) (.slice (some ⟨g, 0, none⟩) 2 cap1) 2 (ndCells [⟨0, 15, 0, ⟨#[]⟩, ⟨#[]⟩⟩, bNd]) (by rfl) hownM7.out ⟨g7, 0, none⟩ (N.length + 1) cap7 (ndCells (N.map Nd.deep) ++ five cNd) (by rfl) hlen7.out hnews7.out hone7.out (by omega) (by unfold maxLen; omega) (by omega) hb7z w7.heap.size (by rfl) ?_)
            intro g8 cap8 w8 hown8 hgrow8 hat8 hltg8
            have hb8 : Hid (Below w1.heap.size w1 w8) := hid (Below.grown hb7.out hgrow8 hb7z (fun q hq => by
              have : g = q := by simpa [Value.ownBlock] using hq
              omega))
            have hnd : ndN t' = [⟨0, 15, 0, ⟨#[]⟩, ⟨#[]⟩⟩, bNd] ++ (N.map Nd.deep ++ [cNd]) := by rw [hcon.out.2.1, nd_in t htx0, hNNH.out]; rfl
            have hlen : Hid ((ndN t').length = 2 + (N.length + 1)) := hid (by rw [hnd]; simp <;> omega)
            have hown9 : Hid (OwnsN w1.heap.size (some ⟨g8, 0, none⟩) cap8 (ndN t') w8) := hid (by
              unfold OwnsN; rw [hlen.out, hnd, show ndCells ([⟨0, 15, 0, ⟨#[]⟩, ⟨#[]⟩⟩, bNd] ++ (N.map Nd.deep ++ [cNd])) = ndCells [⟨0, 15, 0, ⟨#[]⟩, ⟨#[]⟩⟩, bNd] ++ (ndCells (N.map Nd.deep) ++ five cNd) by simp [ndCells]]; exact hown8)
            clear hown8 hgrow8 hat8 hltg8 hnd
            go_wp2
            go_roundw
            case rel => exact ⟨k + 1, t', some ⟨g8, 0, none⟩, cap8, by omega, by omega, by rw [htxH.out], congrArg (fun n => Value.slice (some ⟨g8, 0, none⟩) n cap8) hlen.out.symm, by rw [hhl.out], by go_num, hid (hnext.out _ _ _ hown9.out hb8.out)⟩
            case measure => simp [intOf]; omega
        · subst hq
          have hlk0 : lk = false := by cases lk with | false => rfl | true => exact absurd rfl (hq4H.out rfl)
          obtain ⟨t', ht'⟩ : ∃ t', t' = Nst.li t := ⟨_, rfl⟩
          have hwf0 := hrel'.out.1
          have hcon : Hid (ConN t t' ⟨0, 12, 0, ⟨#[117, 63, 118]⟩, ⟨#[]⟩⟩) := hid ⟨by rw [ht']; exact ⟨by rw [hlkH.out]; exact hlk0, hwf0⟩, by rw [ht']; exact nd_li _, rfl, by rw [ht']; simp [txtN] <;> omega⟩
          have hhl : Hid (hasL t' = true) := hid (by rw [ht']; rfl)
          have htx : Hid ((⟨#[91, 98, 32]⟩ : ByteArray) ++ tb ++ ⟨#[32, 99, 93, 40, 117, 63, 118, 41]⟩ = S.B (txtN t')) := hid (by rw [ht', ← htbH.out]; apply ByteArray.ext; simp [txtN, S.B, ByteArray.data_append])
          clear hwf0 ht'
          have hnext : Hid (∀ ax cx wx, OwnsN w1.heap.size ax cx (ndN t') wx → Below w1.heap.size w1 wx → wfN t' ∧ OwnsN w1.heap.size ax cx (ndN t') wx ∧ (txtN t').length ≤ 1 + 12 * (k + 1) ∧ (ndN t').length ≤ 1 + 3 * (k + 1) ∧ (∀ x ∈ ndN t', 0 ≤ x.depth ∧ x.depth ≤ ((k + 1 : Nat) : Int)) ∧ Below w1.heap.size w1 wx) := hid (fun ax cx wx h1 h2 => ⟨hcon.out.1, h1, by have := hcon.out.2.2.2; have := hrel'.out.2.2.1; omega, by have := con_len _ _ _ hcon.out; have := hrel'.out.2.2.2.1; omega, con_depth _ _ _ k hcon.out hrel'.out.2.2.2.2.1, h2⟩)
          go_upto_region 26 with fail
          rw [htx.out]
          obtain ⟨tx, htxx⟩ : ∃ tx, S.B (txtN t') = tx := ⟨_, rfl⟩
          rw [htxx]
          have htxH := hid htxx
          clear htxx htx
          have hown0 := hrel'.out.2.1
          have hdp := hrel'.out.2.2.2.2.1
          have hNpos0 := ndN_pos t
          obtain ⟨N, hNN⟩ : ∃ N, ndN t = N := ⟨_, rfl⟩
          have hnl2 := hnlH.out
          rw [hNN] at hown0 hdp hNpos0 hnl2
          subst hnl2
          have hNpos : 0 < N.length := hNpos0
          have hNNH := hid hNN
          have hdpH : Hid (∀ x ∈ N, 0 ≤ x.depth ∧ x.depth < 1000000) := hid (fun x hx => by have := hdp x hx; omega)
          obtain ⟨W, hW⟩ : ∃ W, W = (wr.alloc (.cells #[.int .i64 0, .int .i64 12, .int .i64 0, .string ⟨#[117, 63, 118]⟩, .string ⟨#[]⟩] 36)).alloc (.cells #[.int .i64 0, .int .i64 12, .int .i64 0, .string ⟨#[117, 63, 118]⟩, .string ⟨#[]⟩] 36) := ⟨_, rfl⟩
          have hbW : Below wr.heap.size wr W := by rw [hW]; exact ((Below.refl _ _).alloc (Nat.le_refl _) _).alloc (by simp) _
          have hsW : Hid (W.heap.size = wr.heap.size + 2) := hid (by rw [hW]; simp)
          have hownW : OwnsN w1.heap.size (some ⟨wr.heap.size + 1, 0, none⟩) 1 [⟨0, 12, 0, ⟨#[117, 63, 118]⟩, ⟨#[]⟩⟩] W := by
            have hs1 : (wr.alloc (.cells #[.int .i64 0, .int .i64 12, .int .i64 0, .string ⟨#[117, 63, 118]⟩, .string ⟨#[]⟩] 36)).heap.size = wr.heap.size + 1 := by simp
            refine ⟨rfl, .inr ⟨wr.heap.size + 1, 1, _, rfl, by omega, by rw [hW, ← hs1]; exact alloc_new _ _, Nat.le_refl _, by decide, rfl, rfl⟩⟩
          have hD := hid (deeper_any w1.heap.size a cp N W (hown0.below hbW) (by omega) hdpH.out)
          have hbWH := hid hbW
          have hownWH := hid hownW
          clear hbW hownW hown0 hdp hNpos0 hNN
          go_wp2_with fail
          rw [← hW]
          clear hW
          refine hD.out.mono ?_
          rintro e w5 ⟨a5, cp5, rfl, hown5, hb5, h50⟩
          have hsW' := hsW.out
          have hbr5 : Below w1.heap.size w1 w5 := hrel'.out.2.2.2.2.2.trans ((hbWH.out.mono hszr).trans (hb5.mono (by omega)))
          have hz5 : wr.heap.size + 2 ≤ w5.heap.size := by have := hb5.size; omega
          have hownW5 : OwnsN w1.heap.size (some ⟨wr.heap.size + 1, 0, none⟩) 1 [⟨0, 12, 0, ⟨#[117, 63, 118]⟩, ⟨#[]⟩⟩] w5 := hownWH.out.below hb5
          obtain ⟨g5, rfl, hg5, hcp5, _⟩ := OwnsN.some hown5 (by rw [List.length_map]; exact hNpos)
          have hg52 : wr.heap.size + 2 ≤ g5 := by omega
          have hg5l : g5 < w5.heap.size := (World.ownsRow.lt hown5 g5 rfl).2
          have hbr5H := hid hbr5
          have hownW5H := hid hownW5
          by_cases htx0 : t = .x
          · have hN1 : N = [⟨0, 8, 0, ⟨#[]⟩, ⟨#[120]⟩⟩] := by rw [← hNNH.out, htx0, nd_x]
            subst hN1
            obtain ⟨g6, hg6, _, _, c0, c1, c2, c3, c4⟩ := ownsN_at hown5 0 ⟨1, 8, 0, ⟨#[]⟩, ⟨#[120]⟩⟩ rfl
            obtain rfl : g5 = g6 := by simpa using hg6
            dsimp only at c0 c1 c2 c3 c4
            have hfz : w5.frozen? ⟨g5, 4, none⟩ = false := ownsN_free hown5 4
            have hnewX := hid (five_set w5 g5 ⟨#[120]⟩ (⟨#[98, 32]⟩ ++ ⟨#[120]⟩ ++ ⟨#[32, 99]⟩) c0 c1 c2 c3 c4)
            clear hsW' hbr5 hownW5 hown5 hb5 h50 hD hcp5 hg6
            go_upto_region 34 with fail
            obtain ⟨w6, hw6⟩ : ∃ w6, w6 = w5.setCell ⟨g5, 4, none⟩ (.string (⟨#[98, 32]⟩ ++ ⟨#[120]⟩ ++ ⟨#[32, 99]⟩)) := ⟨_, rfl⟩
            rw [← hw6]
            rw [← hw6] at hnewX
            have hownM6 : Hid (w6.ownsRow w1.heap.size 36 5 (.slice (some ⟨wr.heap.size + 1, 0, none⟩) 1 1) 1 (ndCells [⟨0, 12, 0, ⟨#[117, 63, 118]⟩, ⟨#[]⟩⟩])) := hid (by rw [hw6]; exact ownsN_ne hownW5H.out g5 4 _ (by omega))
            have hb6 : Hid (Below w1.heap.size w1 w6) := hid (by rw [hw6]; exact hbr5H.out.setCell (by show w1.heap.size ≤ g5; omega) _)
            have hbase6 : w1.heap.size ≤ w6.heap.size := hb6.out.size
            clear hw6
            go_wp2_with (at_builtin; refine wpList_append_lies _ (by rfl) _ _ 22 (by rfl) w1.heap.size 36 i0 (.agg #[.int .i64 0, .int .i64 0, .int .i64 0, .string ⟨#[]⟩, .string ⟨#[]⟩]) 5 56 Tryz.underlying22 hi hz0 hz1' hz2' (by rfl) (by omega) (.slice (some ⟨wr.heap.size + 1, 0, none⟩) 1 1) 1 (ndCells [⟨0, 12, 0, ⟨#[117, 63, 118]⟩, ⟨#[]⟩⟩]) (by rfl) hownM6.out ⟨g5, 0, none⟩ 1 cp5 (five ⟨1, 8, 0, ⟨#[]⟩, ⟨#[98, 32]⟩ ++ ⟨#[120]⟩ ++ ⟨#[32, 99]⟩⟩) (by rfl) (by rfl) hnewX.out (five_one _) (by omega) (by unfold maxLen; omega) (by omega) hbase6 w6.heap.size (by rfl) ?_)
            intro g cap1 w7 hown7 hgrow hat hltg
            have hb7 : Hid (Below w1.heap.size w1 w7) := hid (Below.grown hb6.out hgrow hbase6 (fun q hq => by
              have : wr.heap.size + 1 = q := by simpa [Value.ownBlock] using hq
              omega))
            have hnd : ndN t' = [⟨0, 12, 0, ⟨#[117, 63, 118]⟩, ⟨#[]⟩⟩, ⟨1, 8, 0, ⟨#[]⟩, ⟨#[98, 32]⟩ ++ ⟨#[120]⟩ ++ ⟨#[32, 99]⟩⟩] := by rw [hcon.out.2.1, htx0, nd_in_x, str_bxc]
            have hlen : Hid ((ndN t').length = 1 + 1) := hid (by rw [hnd]; rfl)
            have hown8 : Hid (OwnsN w1.heap.size (some ⟨g, 0, none⟩) cap1 (ndN t') w7) := hid (by
              unfold OwnsN; rw [hnd]; exact hown7)
            clear hown7 hgrow hat hltg hnd
            go_wp2
            go_roundw
            case rel => exact ⟨k + 1, t', some ⟨g, 0, none⟩, cap1, by omega, by omega, by rw [htxH.out], congrArg (fun n => Value.slice (some ⟨g, 0, none⟩) n cap1) hlen.out.symm, by rw [hhl.out], by go_num, hid (hnext.out _ _ _ hown8.out hb7.out)⟩
            case measure => simp [intOf]; omega
          · obtain ⟨hd0, hk0, hn0, hi0', hs0, hr0, hNe, hk8⟩ := ndN_kind t htx0
            have hN1 : N = ⟨hd0, hk0, hn0, hi0', hs0⟩ :: hr0 := by rw [← hNNH.out, hNe]
            obtain ⟨g6, hg6, _, _, c0, c1, c2, c3, c4⟩ := ownsN_at hown5 0 ⟨hd0 + 1, hk0, hn0, hi0', hs0⟩ (by rw [hN1]; rfl)
            obtain rfl : g5 = g6 := by simpa using hg6
            dsimp only at c0 c1 c2 c3 c4
            have hown5H := hid hown5
            have hN1H := hid hN1
            clear hsW' hbr5 hownW5 hown5 hb5 h50 hD hcp5 hg6 hN1 hNe
            have hk8' : ¬ hk0 = 8 := hk8
            go_upto_region 32 with fail
            have hV3 : Hid (∀ wx : World, True) := hid (fun _ => trivial)
            have hownM : Hid (∀ o1 o2 o3, (((w5.alloc o1).alloc o2).alloc o3).ownsRow w1.heap.size 36 5 (.slice (some ⟨wr.heap.size + 1, 0, none⟩) 1 1) 1 (ndCells [⟨0, 12, 0, ⟨#[117, 63, 118]⟩, ⟨#[]⟩⟩])) := hid (fun o1 o2 o3 => OwnsN.alloc (OwnsN.alloc (OwnsN.alloc hownW5H.out o1) o2) o3)
            have hnewB : Hid (∀ X1 X2 j u, (five bNd)[j]? = some u → (((w5.alloc X1).alloc X2).alloc (.cells #[.int .i64 1, .int .i64 8, .int .i64 0, .string ⟨#[]⟩, .string ⟨#[98, 32]⟩] 36)).cell? ((⟨w5.heap.size + 2, 0, none⟩ : Addr).add j) = some u) := hid (by
              intro X1 X2 j u hj
              have hsz : ((w5.alloc X1).alloc X2).heap.size = w5.heap.size + 2 := by simp
              have ha : (⟨w5.heap.size + 2, 0, none⟩ : Addr).add j = ⟨((w5.alloc X1).alloc X2).heap.size, j, none⟩ := by
                rw [hsz]; simp only [Addr.add]; split
                · rename_i h; simp <;> omega
                · simp <;> omega
              rw [ha]
              exact cell_blk (alloc_new _ _) j u (by rw [← hj]; simp [five, bNd]))
            have honeB : Hid (∀ u ∈ five bNd, u.oneCell' = true) := hid (by
              intro u hu; simp [five] at hu; rcases hu with rfl | rfl | rfl | rfl | rfl <;> rfl)
            have hbaseM : w1.heap.size ≤ w5.heap.size := by omega
            go_wp2_with (at_builtin; refine wpList_append_lies _ (by rfl) _ _ 22 (by rfl) w1.heap.size 36 i0 (.agg #[.int .i64 0, .int .i64 0, .int .i64 0, .string ⟨#[]⟩, .string ⟨#[]⟩]) 5 56 Tryz.underlying22 hi hz0 hz1' hz2' (by rfl) (by omega) (.slice (some ⟨wr.heap.size + 1, 0, none⟩) 1 1) 1 (ndCells [⟨0, 12, 0, ⟨#[117, 63, 118]⟩, ⟨#[]⟩⟩]) (by rfl) (hownM.out _ _ _) ⟨w5.heap.size + 2, 0, none⟩ 1 1 (five bNd) (by rfl) (by rfl) (hnewB.out _ _) honeB.out (by omega) (by unfold maxLen; omega) (by omega) (by simp; omega) (w5.heap.size + 3) (by simp) ?_)
            intro g cap1 w6 hown6 hgrow hat hltg
            have hsz3 : (((w5.alloc (.cells #[.int .i64 1, .int .i64 8, .int .i64 0, .string ⟨#[]⟩, .string ⟨#[98, 32]⟩] 36)).alloc (.cells #[.int .i64 1, .int .i64 8, .int .i64 0, .string ⟨#[]⟩, .string ⟨#[32, 99]⟩] 36)).alloc (.cells #[.int .i64 1, .int .i64 8, .int .i64 0, .string ⟨#[]⟩, .string ⟨#[98, 32]⟩] 36)).heap.size = w5.heap.size + 3 := by simp
            have hgg : g ≠ g5 ∧ wr.heap.size + 1 ≤ g := by
              rcases hat with hat | hat
              · have : wr.heap.size + 1 = g := by simpa [Value.ownBlock] using hat
                omega
              · omega
            have hb6 : Hid (Below w1.heap.size w1 w6) := hid (Below.grown (((hbr5H.out.alloc hbaseM _).alloc (by simp; omega) _).alloc (by simp; omega) _) hgrow (by simp; omega) (fun q hq => by
              have : wr.heap.size + 1 = q := by simpa [Value.ownBlock] using hq
              omega))
            have hz6 : w5.heap.size + 3 ≤ w6.heap.size := by have := hgrow.4; rw [hsz3] at this; exact this
            have hblkC : w6.heap[w5.heap.size + 1]? = some (.cells #[.int .i64 1, .int .i64 8, .int .i64 0, .string ⟨#[]⟩, .string ⟨#[32, 99]⟩] 36) := by
              have h1 := hgrow.5 (w5.heap.size + 1) (by rw [hsz3]; omega) (by simp [Value.ownBlock]; omega)
              have h2 := ((Below.refl ((w5.alloc (.cells #[.int .i64 1, .int .i64 8, .int .i64 0, .string ⟨#[]⟩, .string ⟨#[98, 32]⟩] 36)).alloc (.cells #[.int .i64 1, .int .i64 8, .int .i64 0, .string ⟨#[]⟩, .string ⟨#[32, 99]⟩] 36)).heap.size ((w5.alloc (.cells #[.int .i64 1, .int .i64 8, .int .i64 0, .string ⟨#[]⟩, .string ⟨#[98, 32]⟩] 36)).alloc (.cells #[.int .i64 1, .int .i64 8, .int .i64 0, .string ⟨#[]⟩, .string ⟨#[32, 99]⟩] 36))).alloc (Nat.le_refl _) (.cells #[.int .i64 1, .int .i64 8, .int .i64 0, .string ⟨#[]⟩, .string ⟨#[98, 32]⟩] 36)).block (w5.heap.size + 1) (by simp)
              have h3 := alloc_new (w5.alloc (.cells #[.int .i64 1, .int .i64 8, .int .i64 0, .string ⟨#[]⟩, .string ⟨#[98, 32]⟩] 36)) (.cells #[.int .i64 1, .int .i64 8, .int .i64 0, .string ⟨#[]⟩, .string ⟨#[32, 99]⟩] 36)
              rw [show (w5.alloc (.cells #[.int .i64 1, .int .i64 8, .int .i64 0, .string ⟨#[]⟩, .string ⟨#[98, 32]⟩] 36)).heap.size = w5.heap.size + 1 by simp] at h3
              rw [h1, h2, h3]
            have hownI6 : Hid (∀ o1, (w6.alloc o1).ownsRow W.heap.size 36 5 (.slice (some ⟨g5, 0, none⟩) N.length cp5) N.length (ndCells (N.map Nd.deep))) := hid (fun o1 => by
              have h1 := World.ownsRow.kept (OwnsN.alloc (OwnsN.alloc (OwnsN.alloc hown5H.out (.cells #[.int .i64 1, .int .i64 8, .int .i64 0, .string ⟨#[]⟩, .string ⟨#[98, 32]⟩] 36)) (.cells #[.int .i64 1, .int .i64 8, .int .i64 0, .string ⟨#[]⟩, .string ⟨#[32, 99]⟩] 36)) (.cells #[.int .i64 1, .int .i64 8, .int .i64 0, .string ⟨#[]⟩, .string ⟨#[98, 32]⟩] 36)) hgrow (.inr (by simp [Value.ownBlock]; omega))
              have h2 := World.ownsRow.alloc h1 o1
              rwa [List.length_map] at h2)
            have hownM6 : Hid (OwnsN w1.heap.size (some ⟨g, 0, none⟩) cap1 [⟨0, 12, 0, ⟨#[117, 63, 118]⟩, ⟨#[]⟩⟩, bNd] w6) := hid (by
              unfold OwnsN; exact hown6)
            have d0 := cell_blk hblkC 0 _ rfl
            have d1 := cell_blk hblkC 1 _ rfl
            have d2 := cell_blk hblkC 2 _ rfl
            have d3 := cell_blk hblkC 3 _ rfl
            have d4 := cell_blk hblkC 4 _ rfl
            have hnewC : Hid (∀ j u, (five cNd)[j]? = some u → (w6.alloc (.cells #[.int .i64 1, .int .i64 8, .int .i64 0, .string ⟨#[]⟩, .string ⟨#[32, 99]⟩] 36)).cell? ((⟨w6.heap.size, 0, none⟩ : Addr).add j) = some u) := hid (by
              intro j u hj
              have ha : (⟨w6.heap.size, 0, none⟩ : Addr).add j = ⟨w6.heap.size, j, none⟩ := by
                simp only [Addr.add]; split
                · rename_i h; simp <;> omega
                · simp <;> omega
              rw [ha]
              exact cell_blk (alloc_new _ _) j u (by rw [← hj]; simp [five, cNd]))
            have hWz : W.heap.size ≤ w6.heap.size := by have := hsW.out; omega
            have hb6z : w1.heap.size ≤ w6.heap.size := by omega
            have hgl6 : g < w6.heap.size := hltg
            clear hown6 hgrow hat hltg hblkC hsz3
            go_wp2_with (at_builtin; refine wpList_append_lies _ (by rfl) _ _ 22 (by rfl) W.heap.size 36 i0 (.agg #[.int .i64 0, .int .i64 0, .int .i64 0, .string ⟨#[]⟩, .string ⟨#[]⟩]) 5 56 Tryz.underlying22 hi hz0 hz1' hz2' (by rfl) (by omega) (.slice (some ⟨g5, 0, none⟩) N.length cp5) N.length (ndCells (N.map Nd.deep)) (by rfl) (hownI6.out _) ⟨w6.heap.size, 0, none⟩ 1 1 (five cNd) (by rfl) (by rfl) hnewC.out (five_one _) (by omega) (by unfold maxLen; omega) (by omega) (by simp; omega) (w6.heap.size + 1) (by simp) ?_)
            intro g7 cap7 w7 hown7 hgrow7 hat7 hltg7
            have hsz6 : (w6.alloc (.cells #[.int .i64 1, .int .i64 8, .int .i64 0, .string ⟨#[]⟩, .string ⟨#[32, 99]⟩] 36)).heap.size = w6.heap.size + 1 := by simp
            have hb7 : Hid (Below w1.heap.size w1 w7) := hid (Below.grown (hb6.out.alloc hb6z _) hgrow7 (by simp; omega) (fun q hq => by
              have : g5 = q := by simpa [Value.ownBlock] using hq
              omega))
            have hz7 : w6.heap.size + 1 ≤ w7.heap.size := by have := hgrow7.4; rw [hsz6] at this; exact this
            have hownM7 : Hid (w7.ownsRow w1.heap.size 36 5 (.slice (some ⟨g, 0, none⟩) 2 cap1) 2 (ndCells [⟨0, 12, 0, ⟨#[117, 63, 118]⟩, ⟨#[]⟩⟩, bNd])) := hid (World.ownsRow.kept (OwnsN.alloc hownM6.out (.cells #[.int .i64 1, .int .i64 8, .int .i64 0, .string ⟨#[]⟩, .string ⟨#[32, 99]⟩] 36)) hgrow7 (.inr (by simp [Value.ownBlock]; omega)))
            have hnews7 : Hid (∀ j u, (ndCells (N.map Nd.deep) ++ five cNd)[j]? = some u → w7.cell? ((⟨g7, 0, none⟩ : Addr).add j) = some u) := hid (fun j u hu => World.ownsRow.cells hown7 (g := g7) rfl j u hu)
            have hlen7 : Hid ((ndCells (N.map Nd.deep) ++ five cNd).length = (N.length + 1) * 5) := hid hown7.1
            have hone7 : Hid (∀ u ∈ ndCells (N.map Nd.deep) ++ five cNd, u.oneCell' = true) := hid (by
              rw [← ndCells_snoc]; exact nd_one _)
            have hb7z : w1.heap.size ≤ w7.heap.size := by omega
            clear hown7 hgrow7 hat7 hltg7 hsz6
            go_wp2_with (at_builtin; refine wpList_append_lies _ (by rfl) _ _ 22 (by rfl) w1.heap.size 36 i0 (.agg #[.int .i64 0, .int .i64 0, .int .i64 0, .string ⟨#[]⟩, .string ⟨#[]⟩]) 5 56 Tryz.underlying22 hi hz0 hz1' hz2' (by rfl) (by omega) (.slice (some ⟨g, 0, none⟩) 2 cap1) 2 (ndCells [⟨0, 12, 0, ⟨#[117, 63, 118]⟩, ⟨#[]⟩⟩, bNd]) (by rfl) hownM7.out ⟨g7, 0, none⟩ (N.length + 1) cap7 (ndCells (N.map Nd.deep) ++ five cNd) (by rfl) hlen7.out hnews7.out hone7.out (by omega) (by unfold maxLen; omega) (by omega) hb7z w7.heap.size (by rfl) ?_)
            intro g8 cap8 w8 hown8 hgrow8 hat8 hltg8
            have hb8 : Hid (Below w1.heap.size w1 w8) := hid (Below.grown hb7.out hgrow8 hb7z (fun q hq => by
              have : g = q := by simpa [Value.ownBlock] using hq
              omega))
            have hnd : ndN t' = [⟨0, 12, 0, ⟨#[117, 63, 118]⟩, ⟨#[]⟩⟩, bNd] ++ (N.map Nd.deep ++ [cNd]) := by rw [hcon.out.2.1, nd_in t htx0, hNNH.out]; rfl
            have hlen : Hid ((ndN t').length = 2 + (N.length + 1)) := hid (by rw [hnd]; simp <;> omega)
            have hown9 : Hid (OwnsN w1.heap.size (some ⟨g8, 0, none⟩) cap8 (ndN t') w8) := hid (by
              unfold OwnsN; rw [hlen.out, hnd, show ndCells ([⟨0, 12, 0, ⟨#[117, 63, 118]⟩, ⟨#[]⟩⟩, bNd] ++ (N.map Nd.deep ++ [cNd])) = ndCells [⟨0, 12, 0, ⟨#[117, 63, 118]⟩, ⟨#[]⟩⟩, bNd] ++ (ndCells (N.map Nd.deep) ++ five cNd) by simp [ndCells]]; exact hown8)
            clear hown8 hgrow8 hat8 hltg8 hnd
            go_wp2
            go_roundw
            case rel => exact ⟨k + 1, t', some ⟨g8, 0, none⟩, cap8, by omega, by omega, by rw [htxH.out], congrArg (fun n => Value.slice (some ⟨g8, 0, none⟩) n cap8) hlen.out.symm, by rw [hhl.out], by go_num, hid (hnext.out _ _ _ hown9.out hb8.out)⟩
            case measure => simp [intOf]; omega
        · subst hq
          obtain ⟨t', ht'⟩ : ∃ t', t' = Nst.im t := ⟨_, rfl⟩
          have hwf0 := hrel'.out.1
          have hcon : Hid (ConN t t' ⟨0, 13, 0, ⟨#[]⟩, ⟨#[]⟩⟩) := hid ⟨by rw [ht']; exact hwf0, by rw [ht']; exact nd_im _, rfl, by rw [ht']; simp [txtN] <;> omega⟩
          have hhl : Hid (hasL t' = lk) := hid (by rw [ht']; exact hlkH.out)
          have htx : Hid ((⟨#[33, 91, 98, 32]⟩ : ByteArray) ++ tb ++ ⟨#[32, 99, 93, 40, 41]⟩ = S.B (txtN t')) := hid (by rw [ht', ← htbH.out]; apply ByteArray.ext; simp [txtN, S.B, ByteArray.data_append])
          clear hwf0 ht'
          have hnext : Hid (∀ ax cx wx, OwnsN w1.heap.size ax cx (ndN t') wx → Below w1.heap.size w1 wx → wfN t' ∧ OwnsN w1.heap.size ax cx (ndN t') wx ∧ (txtN t').length ≤ 1 + 12 * (k + 1) ∧ (ndN t').length ≤ 1 + 3 * (k + 1) ∧ (∀ x ∈ ndN t', 0 ≤ x.depth ∧ x.depth ≤ ((k + 1 : Nat) : Int)) ∧ Below w1.heap.size w1 wx) := hid (fun ax cx wx h1 h2 => ⟨hcon.out.1, h1, by have := hcon.out.2.2.2; have := hrel'.out.2.2.1; omega, by have := con_len _ _ _ hcon.out; have := hrel'.out.2.2.2.1; omega, con_depth _ _ _ k hcon.out hrel'.out.2.2.2.2.1, h2⟩)
          go_upto_region 26 with fail
          rw [htx.out]
          obtain ⟨tx, htxx⟩ : ∃ tx, S.B (txtN t') = tx := ⟨_, rfl⟩
          rw [htxx]
          have htxH := hid htxx
          clear htxx htx
          have hown0 := hrel'.out.2.1
          have hdp := hrel'.out.2.2.2.2.1
          have hNpos0 := ndN_pos t
          obtain ⟨N, hNN⟩ : ∃ N, ndN t = N := ⟨_, rfl⟩
          have hnl2 := hnlH.out
          rw [hNN] at hown0 hdp hNpos0 hnl2
          subst hnl2
          have hNpos : 0 < N.length := hNpos0
          have hNNH := hid hNN
          have hdpH : Hid (∀ x ∈ N, 0 ≤ x.depth ∧ x.depth < 1000000) := hid (fun x hx => by have := hdp x hx; omega)
          obtain ⟨W, hW⟩ : ∃ W, W = (wr.alloc (.cells #[.int .i64 0, .int .i64 13, .int .i64 0, .string ⟨#[]⟩, .string ⟨#[]⟩] 36)).alloc (.cells #[.int .i64 0, .int .i64 13, .int .i64 0, .string ⟨#[]⟩, .string ⟨#[]⟩] 36) := ⟨_, rfl⟩
          have hbW : Below wr.heap.size wr W := by rw [hW]; exact ((Below.refl _ _).alloc (Nat.le_refl _) _).alloc (by simp) _
          have hsW : Hid (W.heap.size = wr.heap.size + 2) := hid (by rw [hW]; simp)
          have hownW : OwnsN w1.heap.size (some ⟨wr.heap.size + 1, 0, none⟩) 1 [⟨0, 13, 0, ⟨#[]⟩, ⟨#[]⟩⟩] W := by
            have hs1 : (wr.alloc (.cells #[.int .i64 0, .int .i64 13, .int .i64 0, .string ⟨#[]⟩, .string ⟨#[]⟩] 36)).heap.size = wr.heap.size + 1 := by simp
            refine ⟨rfl, .inr ⟨wr.heap.size + 1, 1, _, rfl, by omega, by rw [hW, ← hs1]; exact alloc_new _ _, Nat.le_refl _, by decide, rfl, rfl⟩⟩
          have hD := hid (deeper_any w1.heap.size a cp N W (hown0.below hbW) (by omega) hdpH.out)
          have hbWH := hid hbW
          have hownWH := hid hownW
          clear hbW hownW hown0 hdp hNpos0 hNN
          go_wp2_with fail
          rw [← hW]
          clear hW
          refine hD.out.mono ?_
          rintro e w5 ⟨a5, cp5, rfl, hown5, hb5, h50⟩
          have hsW' := hsW.out
          have hbr5 : Below w1.heap.size w1 w5 := hrel'.out.2.2.2.2.2.trans ((hbWH.out.mono hszr).trans (hb5.mono (by omega)))
          have hz5 : wr.heap.size + 2 ≤ w5.heap.size := by have := hb5.size; omega
          have hownW5 : OwnsN w1.heap.size (some ⟨wr.heap.size + 1, 0, none⟩) 1 [⟨0, 13, 0, ⟨#[]⟩, ⟨#[]⟩⟩] w5 := hownWH.out.below hb5
          obtain ⟨g5, rfl, hg5, hcp5, _⟩ := OwnsN.some hown5 (by rw [List.length_map]; exact hNpos)
          have hg52 : wr.heap.size + 2 ≤ g5 := by omega
          have hg5l : g5 < w5.heap.size := (World.ownsRow.lt hown5 g5 rfl).2
          have hbr5H := hid hbr5
          have hownW5H := hid hownW5
          by_cases htx0 : t = .x
          · have hN1 : N = [⟨0, 8, 0, ⟨#[]⟩, ⟨#[120]⟩⟩] := by rw [← hNNH.out, htx0, nd_x]
            subst hN1
            obtain ⟨g6, hg6, _, _, c0, c1, c2, c3, c4⟩ := ownsN_at hown5 0 ⟨1, 8, 0, ⟨#[]⟩, ⟨#[120]⟩⟩ rfl
            obtain rfl : g5 = g6 := by simpa using hg6
            dsimp only at c0 c1 c2 c3 c4
            have hfz : w5.frozen? ⟨g5, 4, none⟩ = false := ownsN_free hown5 4
            have hnewX := hid (five_set w5 g5 ⟨#[120]⟩ (⟨#[98, 32]⟩ ++ ⟨#[120]⟩ ++ ⟨#[32, 99]⟩) c0 c1 c2 c3 c4)
            clear hsW' hbr5 hownW5 hown5 hb5 h50 hD hcp5 hg6
            go_upto_region 34 with fail
            obtain ⟨w6, hw6⟩ : ∃ w6, w6 = w5.setCell ⟨g5, 4, none⟩ (.string (⟨#[98, 32]⟩ ++ ⟨#[120]⟩ ++ ⟨#[32, 99]⟩)) := ⟨_, rfl⟩
            rw [← hw6]
            rw [← hw6] at hnewX
            have hownM6 : Hid (w6.ownsRow w1.heap.size 36 5 (.slice (some ⟨wr.heap.size + 1, 0, none⟩) 1 1) 1 (ndCells [⟨0, 13, 0, ⟨#[]⟩, ⟨#[]⟩⟩])) := hid (by rw [hw6]; exact ownsN_ne hownW5H.out g5 4 _ (by omega))
            have hb6 : Hid (Below w1.heap.size w1 w6) := hid (by rw [hw6]; exact hbr5H.out.setCell (by show w1.heap.size ≤ g5; omega) _)
            have hbase6 : w1.heap.size ≤ w6.heap.size := hb6.out.size
            clear hw6
            go_wp2_with (at_builtin; refine wpList_append_lies _ (by rfl) _ _ 22 (by rfl) w1.heap.size 36 i0 (.agg #[.int .i64 0, .int .i64 0, .int .i64 0, .string ⟨#[]⟩, .string ⟨#[]⟩]) 5 56 Tryz.underlying22 hi hz0 hz1' hz2' (by rfl) (by omega) (.slice (some ⟨wr.heap.size + 1, 0, none⟩) 1 1) 1 (ndCells [⟨0, 13, 0, ⟨#[]⟩, ⟨#[]⟩⟩]) (by rfl) hownM6.out ⟨g5, 0, none⟩ 1 cp5 (five ⟨1, 8, 0, ⟨#[]⟩, ⟨#[98, 32]⟩ ++ ⟨#[120]⟩ ++ ⟨#[32, 99]⟩⟩) (by rfl) (by rfl) hnewX.out (five_one _) (by omega) (by unfold maxLen; omega) (by omega) hbase6 w6.heap.size (by rfl) ?_)
            intro g cap1 w7 hown7 hgrow hat hltg
            have hb7 : Hid (Below w1.heap.size w1 w7) := hid (Below.grown hb6.out hgrow hbase6 (fun q hq => by
              have : wr.heap.size + 1 = q := by simpa [Value.ownBlock] using hq
              omega))
            have hnd : ndN t' = [⟨0, 13, 0, ⟨#[]⟩, ⟨#[]⟩⟩, ⟨1, 8, 0, ⟨#[]⟩, ⟨#[98, 32]⟩ ++ ⟨#[120]⟩ ++ ⟨#[32, 99]⟩⟩] := by rw [hcon.out.2.1, htx0, nd_in_x, str_bxc]
            have hlen : Hid ((ndN t').length = 1 + 1) := hid (by rw [hnd]; rfl)
            have hown8 : Hid (OwnsN w1.heap.size (some ⟨g, 0, none⟩) cap1 (ndN t') w7) := hid (by
              unfold OwnsN; rw [hnd]; exact hown7)
            clear hown7 hgrow hat hltg hnd
            go_wp2
            go_roundw
            case rel => exact ⟨k + 1, t', some ⟨g, 0, none⟩, cap1, by omega, by omega, by rw [htxH.out], congrArg (fun n => Value.slice (some ⟨g, 0, none⟩) n cap1) hlen.out.symm, by rw [hhl.out], by go_num, hid (hnext.out _ _ _ hown8.out hb7.out)⟩
            case measure => simp [intOf]; omega
          · obtain ⟨hd0, hk0, hn0, hi0', hs0, hr0, hNe, hk8⟩ := ndN_kind t htx0
            have hN1 : N = ⟨hd0, hk0, hn0, hi0', hs0⟩ :: hr0 := by rw [← hNNH.out, hNe]
            obtain ⟨g6, hg6, _, _, c0, c1, c2, c3, c4⟩ := ownsN_at hown5 0 ⟨hd0 + 1, hk0, hn0, hi0', hs0⟩ (by rw [hN1]; rfl)
            obtain rfl : g5 = g6 := by simpa using hg6
            dsimp only at c0 c1 c2 c3 c4
            have hown5H := hid hown5
            have hN1H := hid hN1
            clear hsW' hbr5 hownW5 hown5 hb5 h50 hD hcp5 hg6 hN1 hNe
            have hk8' : ¬ hk0 = 8 := hk8
            go_upto_region 32 with fail
            have hV3 : Hid (∀ wx : World, True) := hid (fun _ => trivial)
            have hownM : Hid (∀ o1 o2 o3, (((w5.alloc o1).alloc o2).alloc o3).ownsRow w1.heap.size 36 5 (.slice (some ⟨wr.heap.size + 1, 0, none⟩) 1 1) 1 (ndCells [⟨0, 13, 0, ⟨#[]⟩, ⟨#[]⟩⟩])) := hid (fun o1 o2 o3 => OwnsN.alloc (OwnsN.alloc (OwnsN.alloc hownW5H.out o1) o2) o3)
            have hnewB : Hid (∀ X1 X2 j u, (five bNd)[j]? = some u → (((w5.alloc X1).alloc X2).alloc (.cells #[.int .i64 1, .int .i64 8, .int .i64 0, .string ⟨#[]⟩, .string ⟨#[98, 32]⟩] 36)).cell? ((⟨w5.heap.size + 2, 0, none⟩ : Addr).add j) = some u) := hid (by
              intro X1 X2 j u hj
              have hsz : ((w5.alloc X1).alloc X2).heap.size = w5.heap.size + 2 := by simp
              have ha : (⟨w5.heap.size + 2, 0, none⟩ : Addr).add j = ⟨((w5.alloc X1).alloc X2).heap.size, j, none⟩ := by
                rw [hsz]; simp only [Addr.add]; split
                · rename_i h; simp <;> omega
                · simp <;> omega
              rw [ha]
              exact cell_blk (alloc_new _ _) j u (by rw [← hj]; simp [five, bNd]))
            have honeB : Hid (∀ u ∈ five bNd, u.oneCell' = true) := hid (by
              intro u hu; simp [five] at hu; rcases hu with rfl | rfl | rfl | rfl | rfl <;> rfl)
            have hbaseM : w1.heap.size ≤ w5.heap.size := by omega
            go_wp2_with (at_builtin; refine wpList_append_lies _ (by rfl) _ _ 22 (by rfl) w1.heap.size 36 i0 (.agg #[.int .i64 0, .int .i64 0, .int .i64 0, .string ⟨#[]⟩, .string ⟨#[]⟩]) 5 56 Tryz.underlying22 hi hz0 hz1' hz2' (by rfl) (by omega) (.slice (some ⟨wr.heap.size + 1, 0, none⟩) 1 1) 1 (ndCells [⟨0, 13, 0, ⟨#[]⟩, ⟨#[]⟩⟩]) (by rfl) (hownM.out _ _ _) ⟨w5.heap.size + 2, 0, none⟩ 1 1 (five bNd) (by rfl) (by rfl) (hnewB.out _ _) honeB.out (by omega) (by unfold maxLen; omega) (by omega) (by simp; omega) (w5.heap.size + 3) (by simp) ?_)
            intro g cap1 w6 hown6 hgrow hat hltg
            have hsz3 : (((w5.alloc (.cells #[.int .i64 1, .int .i64 8, .int .i64 0, .string ⟨#[]⟩, .string ⟨#[98, 32]⟩] 36)).alloc (.cells #[.int .i64 1, .int .i64 8, .int .i64 0, .string ⟨#[]⟩, .string ⟨#[32, 99]⟩] 36)).alloc (.cells #[.int .i64 1, .int .i64 8, .int .i64 0, .string ⟨#[]⟩, .string ⟨#[98, 32]⟩] 36)).heap.size = w5.heap.size + 3 := by simp
            have hgg : g ≠ g5 ∧ wr.heap.size + 1 ≤ g := by
              rcases hat with hat | hat
              · have : wr.heap.size + 1 = g := by simpa [Value.ownBlock] using hat
                omega
              · omega
            have hb6 : Hid (Below w1.heap.size w1 w6) := hid (Below.grown (((hbr5H.out.alloc hbaseM _).alloc (by simp; omega) _).alloc (by simp; omega) _) hgrow (by simp; omega) (fun q hq => by
              have : wr.heap.size + 1 = q := by simpa [Value.ownBlock] using hq
              omega))
            have hz6 : w5.heap.size + 3 ≤ w6.heap.size := by have := hgrow.4; rw [hsz3] at this; exact this
            have hblkC : w6.heap[w5.heap.size + 1]? = some (.cells #[.int .i64 1, .int .i64 8, .int .i64 0, .string ⟨#[]⟩, .string ⟨#[32, 99]⟩] 36) := by
              have h1 := hgrow.5 (w5.heap.size + 1) (by rw [hsz3]; omega) (by simp [Value.ownBlock]; omega)
              have h2 := ((Below.refl ((w5.alloc (.cells #[.int .i64 1, .int .i64 8, .int .i64 0, .string ⟨#[]⟩, .string ⟨#[98, 32]⟩] 36)).alloc (.cells #[.int .i64 1, .int .i64 8, .int .i64 0, .string ⟨#[]⟩, .string ⟨#[32, 99]⟩] 36)).heap.size ((w5.alloc (.cells #[.int .i64 1, .int .i64 8, .int .i64 0, .string ⟨#[]⟩, .string ⟨#[98, 32]⟩] 36)).alloc (.cells #[.int .i64 1, .int .i64 8, .int .i64 0, .string ⟨#[]⟩, .string ⟨#[32, 99]⟩] 36))).alloc (Nat.le_refl _) (.cells #[.int .i64 1, .int .i64 8, .int .i64 0, .string ⟨#[]⟩, .string ⟨#[98, 32]⟩] 36)).block (w5.heap.size + 1) (by simp)
              have h3 := alloc_new (w5.alloc (.cells #[.int .i64 1, .int .i64 8, .int .i64 0, .string ⟨#[]⟩, .string ⟨#[98, 32]⟩] 36)) (.cells #[.int .i64 1, .int .i64 8, .int .i64 0, .string ⟨#[]⟩, .string ⟨#[32, 99]⟩] 36)
              rw [show (w5.alloc (.cells #[.int .i64 1, .int .i64 8, .int .i64 0, .string ⟨#[]⟩, .string ⟨#[98, 32]⟩] 36)).heap.size = w5.heap.size + 1 by simp] at h3
              rw [h1, h2, h3]
            have hownI6 : Hid (∀ o1, (w6.alloc o1).ownsRow W.heap.size 36 5 (.slice (some ⟨g5, 0, none⟩) N.length cp5) N.length (ndCells (N.map Nd.deep))) := hid (fun o1 => by
              have h1 := World.ownsRow.kept (OwnsN.alloc (OwnsN.alloc (OwnsN.alloc hown5H.out (.cells #[.int .i64 1, .int .i64 8, .int .i64 0, .string ⟨#[]⟩, .string ⟨#[98, 32]⟩] 36)) (.cells #[.int .i64 1, .int .i64 8, .int .i64 0, .string ⟨#[]⟩, .string ⟨#[32, 99]⟩] 36)) (.cells #[.int .i64 1, .int .i64 8, .int .i64 0, .string ⟨#[]⟩, .string ⟨#[98, 32]⟩] 36)) hgrow (.inr (by simp [Value.ownBlock]; omega))
              have h2 := World.ownsRow.alloc h1 o1
              rwa [List.length_map] at h2)
            have hownM6 : Hid (OwnsN w1.heap.size (some ⟨g, 0, none⟩) cap1 [⟨0, 13, 0, ⟨#[]⟩, ⟨#[]⟩⟩, bNd] w6) := hid (by
              unfold OwnsN; exact hown6)
            have d0 := cell_blk hblkC 0 _ rfl
            have d1 := cell_blk hblkC 1 _ rfl
            have d2 := cell_blk hblkC 2 _ rfl
            have d3 := cell_blk hblkC 3 _ rfl
            have d4 := cell_blk hblkC 4 _ rfl
            have hnewC : Hid (∀ j u, (five cNd)[j]? = some u → (w6.alloc (.cells #[.int .i64 1, .int .i64 8, .int .i64 0, .string ⟨#[]⟩, .string ⟨#[32, 99]⟩] 36)).cell? ((⟨w6.heap.size, 0, none⟩ : Addr).add j) = some u) := hid (by
              intro j u hj
              have ha : (⟨w6.heap.size, 0, none⟩ : Addr).add j = ⟨w6.heap.size, j, none⟩ := by
                simp only [Addr.add]; split
                · rename_i h; simp <;> omega
                · simp <;> omega
              rw [ha]
              exact cell_blk (alloc_new _ _) j u (by rw [← hj]; simp [five, cNd]))
            have hWz : W.heap.size ≤ w6.heap.size := by have := hsW.out; omega
            have hb6z : w1.heap.size ≤ w6.heap.size := by omega
            have hgl6 : g < w6.heap.size := hltg
            clear hown6 hgrow hat hltg hblkC hsz3
            go_wp2_with (at_builtin; refine wpList_append_lies _ (by rfl) _ _ 22 (by rfl) W.heap.size 36 i0 (.agg #[.int .i64 0, .int .i64 0, .int .i64 0, .string ⟨#[]⟩, .string ⟨#[]⟩]) 5 56 Tryz.underlying22 hi hz0 hz1' hz2' (by rfl) (by omega) (.slice (some ⟨g5, 0, none⟩) N.length cp5) N.length (ndCells (N.map Nd.deep)) (by rfl) (hownI6.out _) ⟨w6.heap.size, 0, none⟩ 1 1 (five cNd) (by rfl) (by rfl) hnewC.out (five_one _) (by omega) (by unfold maxLen; omega) (by omega) (by simp; omega) (w6.heap.size + 1) (by simp) ?_)
            intro g7 cap7 w7 hown7 hgrow7 hat7 hltg7
            have hsz6 : (w6.alloc (.cells #[.int .i64 1, .int .i64 8, .int .i64 0, .string ⟨#[]⟩, .string ⟨#[32, 99]⟩] 36)).heap.size = w6.heap.size + 1 := by simp
            have hb7 : Hid (Below w1.heap.size w1 w7) := hid (Below.grown (hb6.out.alloc hb6z _) hgrow7 (by simp; omega) (fun q hq => by
              have : g5 = q := by simpa [Value.ownBlock] using hq
              omega))
            have hz7 : w6.heap.size + 1 ≤ w7.heap.size := by have := hgrow7.4; rw [hsz6] at this; exact this
            have hownM7 : Hid (w7.ownsRow w1.heap.size 36 5 (.slice (some ⟨g, 0, none⟩) 2 cap1) 2 (ndCells [⟨0, 13, 0, ⟨#[]⟩, ⟨#[]⟩⟩, bNd])) := hid (World.ownsRow.kept (OwnsN.alloc hownM6.out (.cells #[.int .i64 1, .int .i64 8, .int .i64 0, .string ⟨#[]⟩, .string ⟨#[32, 99]⟩] 36)) hgrow7 (.inr (by simp [Value.ownBlock]; omega)))
            have hnews7 : Hid (∀ j u, (ndCells (N.map Nd.deep) ++ five cNd)[j]? = some u → w7.cell? ((⟨g7, 0, none⟩ : Addr).add j) = some u) := hid (fun j u hu => World.ownsRow.cells hown7 (g := g7) rfl j u hu)
            have hlen7 : Hid ((ndCells (N.map Nd.deep) ++ five cNd).length = (N.length + 1) * 5) := hid hown7.1
            have hone7 : Hid (∀ u ∈ ndCells (N.map Nd.deep) ++ five cNd, u.oneCell' = true) := hid (by
              rw [← ndCells_snoc]; exact nd_one _)
            have hb7z : w1.heap.size ≤ w7.heap.size := by omega
            clear hown7 hgrow7 hat7 hltg7 hsz6
            go_wp2_with (at_builtin; refine wpList_append_lies _ (by rfl) _ _ 22 (by rfl) w1.heap.size 36 i0 (.agg #[.int .i64 0, .int .i64 0, .int .i64 0, .string ⟨#[]⟩, .string ⟨#[]⟩]) 5 56 Tryz.underlying22 hi hz0 hz1' hz2' (by rfl) (by omega) (.slice (some ⟨g, 0, none⟩) 2 cap1) 2 (ndCells [⟨0, 13, 0, ⟨#[]⟩, ⟨#[]⟩⟩, bNd]) (by rfl) hownM7.out ⟨g7, 0, none⟩ (N.length + 1) cap7 (ndCells (N.map Nd.deep) ++ five cNd) (by rfl) hlen7.out hnews7.out hone7.out (by omega) (by unfold maxLen; omega) (by omega) hb7z w7.heap.size (by rfl) ?_)
            intro g8 cap8 w8 hown8 hgrow8 hat8 hltg8
            have hb8 : Hid (Below w1.heap.size w1 w8) := hid (Below.grown hb7.out hgrow8 hb7z (fun q hq => by
              have : g = q := by simpa [Value.ownBlock] using hq
              omega))
            have hnd : ndN t' = [⟨0, 13, 0, ⟨#[]⟩, ⟨#[]⟩⟩, bNd] ++ (N.map Nd.deep ++ [cNd]) := by rw [hcon.out.2.1, nd_in t htx0, hNNH.out]; rfl
            have hlen : Hid ((ndN t').length = 2 + (N.length + 1)) := hid (by rw [hnd]; simp <;> omega)
            have hown9 : Hid (OwnsN w1.heap.size (some ⟨g8, 0, none⟩) cap8 (ndN t') w8) := hid (by
              unfold OwnsN; rw [hlen.out, hnd, show ndCells ([⟨0, 13, 0, ⟨#[]⟩, ⟨#[]⟩⟩, bNd] ++ (N.map Nd.deep ++ [cNd])) = ndCells [⟨0, 13, 0, ⟨#[]⟩, ⟨#[]⟩⟩, bNd] ++ (ndCells (N.map Nd.deep) ++ five cNd) by simp [ndCells]]; exact hown8)
            clear hown8 hgrow8 hat8 hltg8 hnd
            go_wp2
            go_roundw
            case rel => exact ⟨k + 1, t', some ⟨g8, 0, none⟩, cap8, by omega, by omega, by rw [htxH.out], congrArg (fun n => Value.slice (some ⟨g8, 0, none⟩) n cap8) hlen.out.symm, by rw [hhl.out], by go_num, hid (hnext.out _ _ _ hown9.out hb8.out)⟩
            case measure => simp [intOf]; omega
    · rcases (show (zs.length : Int) ≤ (k : Int) ∨ ((k : Int) < (zs.length : Int) ∧ (12 : Int) ≤ (k : Int)) by omega) with hge | hge
      · have hge1 : ¬ (k : Int) < (zs.length : Int) := by omega
        clear hlt
        have hwf := hrel'.out.1
        have henvr : Env wr := henv1.out.below hrel'.out.2.2.2.2.2
        have hT1 := hid (tree_all tb wr (by omega) henvr)
        have hNd : nodesOf tb.data.toList = ⟨0, 1, 0, ⟨#[]⟩, ⟨#[]⟩⟩ :: (ndN t).map Nd.deep := by rw [← htbH.out, S.data_B]; exact nest_nodes t hwf
        rw [hNd] at hT1
        have hown0 := hrel'.out.2.1
        have hdp := hrel'.out.2.2.2.2.1
        have hNpos0 := ndN_pos t
        obtain ⟨N, hNN⟩ : ∃ N, ndN t = N := ⟨_, rfl⟩
        have hnl2 := hnlH.out
        rw [hNN] at hT1 hown0 hdp hNpos0 hnl2
        subst hnl2
        have hNpos : 0 < N.length := hNpos0
        have hbr := hid (hb1H.out.trans (hrel'.out.2.2.2.2.2.mono hz1))
        have hzr : w.heap.size ≤ wr.heap.size := by omega
        have hown0H := hid hown0
        have hdpH : Hid (∀ x ∈ N, 0 ≤ x.depth ∧ x.depth < 1000000) := hid (fun x hx => by have := hdp x hx; omega)
        clear hwf henvr hNd hown0 hdp hNpos0 hNN hrel' hnlH htbH hlkH
        go_wp2_with fail
        refine hT1.out.mono ?_
        rintro e w4 ⟨B2, a2, cp2, rfl, hB2, hown2, hb4⟩
        have hown2H := hid hown2
        have hb4H := hid hb4
        have hz4 : wr.heap.size ≤ w4.heap.size := hb4.size
        clear hown2 hb4
        obtain ⟨W, hW⟩ : ∃ W, W = w4.alloc (.cells #[.int .i64 0, .int .i64 1, .int .i64 0, .string ⟨#[]⟩, .string ⟨#[]⟩] 36) := ⟨_, rfl⟩
        have hbW : Below w4.heap.size w4 W := by rw [hW]; exact (Below.refl _ _).alloc (Nat.le_refl _) _
        have hsW : Hid (W.heap.size = w4.heap.size + 1) := hid (by rw [hW]; simp)
        have hownW : OwnsN w4.heap.size (some ⟨w4.heap.size, 0, none⟩) 1 [⟨0, 1, 0, ⟨#[]⟩, ⟨#[]⟩⟩] W := by rw [hW]; exact lit_owns w4 [⟨0, 1, 0, ⟨#[]⟩, ⟨#[]⟩⟩] 1 rfl (by simp)
        have hD := hid (deeper_any w1.heap.size a cp N W ((hown0H.out.below hb4H.out).below hbW) (by omega) hdpH.out)
        have hbWH := hid hbW
        have hownWH := hid hownW
        clear hbW hownW
        go_wp2_with fail
        rw [← hW]
        clear hW
        refine hD.out.mono ?_
        rintro e w5 ⟨a5, cp5, rfl, hown5, hb5, h50⟩
        have hsW' := hsW.out
        have hb45 : Below w4.heap.size w4 w5 := hbWH.out.trans (hb5.mono (by omega))
        have hz5 : w4.heap.size + 1 ≤ w5.heap.size := by have := hb5.size; omega
        have hownW5 : OwnsN w4.heap.size (some ⟨w4.heap.size, 0, none⟩) 1 [⟨0, 1, 0, ⟨#[]⟩, ⟨#[]⟩⟩] w5 := hownWH.out.below hb5
        have hbfin : Hid (∀ wx, Below w4.heap.size w4 wx → Below w.heap.size w wx) := hid (fun wx hx => hbr.out.trans ((hb4H.out.mono hzr).trans (hx.mono (by omega))))
        obtain ⟨g5, rfl, hg5, hcp5, _⟩ := OwnsN.some hown5 (by rw [List.length_map]; exact hNpos)
        have hnews : Hid (∀ j u, (ndCells (N.map Nd.deep))[j]? = some u → w5.cell? ((⟨g5, 0, none⟩ : Addr).add j) = some u) := hid (fun j u hu => World.ownsRow.cells hown5 (g := g5) rfl j u hu)
        have hlen5 : Hid ((ndCells (N.map Nd.deep)).length = N.length * 5) := hid (by have := hown5.1; rwa [List.length_map] at this)
        have hone : Hid (∀ u ∈ ndCells (N.map Nd.deep), u.oneCell' = true) := hid (nd_one _)
        have hownWH5 := hid hownW5
        have hb45H := hid hb45
        have hbase : w4.heap.size ≤ w5.heap.size := by omega
        clear hsW' hb45 hownW5 hown5 hb5 h50 hD hcp5
        go_wp2_with (at_builtin; refine wpList_append_lies _ (by rfl) _ _ 22 (by rfl) w4.heap.size 36 i0 (.agg #[.int .i64 0, .int .i64 0, .int .i64 0, .string ⟨#[]⟩, .string ⟨#[]⟩]) 5 56 Tryz.underlying22 hi hz0 hz1' hz2' (by rfl) (by omega) (.slice (some ⟨w4.heap.size, 0, none⟩) 1 1) 1 (ndCells [⟨0, 1, 0, ⟨#[]⟩, ⟨#[]⟩⟩]) (by rfl) hownWH5.out ⟨g5, 0, none⟩ N.length cp5 (ndCells (N.map Nd.deep)) (by rfl) hlen5.out hnews.out hone.out hNpos (by unfold maxLen; omega) (by omega) hbase w5.heap.size (by rfl) ?_)
        intro g cap1 w6 hown6 hgrow hat hltg
        have hb46 : Below w4.heap.size w4 w6 := Below.grown hb45H.out hgrow hbase (fun q hq => by
          have : w4.heap.size = q := by simpa [Value.ownBlock] using hq
          omega)
        have hown6' : OwnsN w4.heap.size (some ⟨g, 0, none⟩) cap1 (⟨0, 1, 0, ⟨#[]⟩, ⟨#[]⟩⟩ :: N.map Nd.deep) w6 := by
          unfold OwnsN
          rw [show (⟨0, 1, 0, ⟨#[]⟩, ⟨#[]⟩⟩ : Nd) :: N.map Nd.deep = [⟨0, 1, 0, ⟨#[]⟩, ⟨#[]⟩⟩] ++ N.map Nd.deep from rfl, List.length_append, List.length_map, show ndCells ([⟨0, 1, 0, ⟨#[]⟩, ⟨#[]⟩⟩] ++ N.map Nd.deep) = ndCells [⟨0, 1, 0, ⟨#[]⟩, ⟨#[]⟩⟩] ++ ndCells (N.map Nd.deep) by simp [ndCells]]
          exact hown6
        have hown2' : OwnsN B2 a2 cp2 (⟨0, 1, 0, ⟨#[]⟩, ⟨#[]⟩⟩ :: N.map Nd.deep) w6 := hown2H.out.below hb46
        have hSm := hid (same_true B2 w4.heap.size a2 (some ⟨g, 0, none⟩) cp2 cap1 (⟨0, 1, 0, ⟨#[]⟩, ⟨#[]⟩⟩ :: N.map Nd.deep) w6 hown2' hown6' (by rw [List.length_cons, List.length_map]; omega))
        rw [List.length_cons, List.length_map] at hSm
        have hb46H := hid hb46
        have hadd : 1 + N.length = N.length + 1 := by omega
        have hz6 : w4.heap.size ≤ w6.heap.size := hb46.size
        clear hown6 hgrow hat hltg hb46 hown6' hown2'
        rw [hadd]
        go_wp2_with fail
        refine hSm.out.mono ?_
        rintro e w7 ⟨rfl, hb7⟩
        have hb7H := hid (hb46H.out.trans (hb7.mono hz6))
        clear hb7
        go_wp2
        go_ret
        exact ⟨rfl, hbfin.out _ hb7H.out⟩
      · obtain ⟨hge1, hge2⟩ := hge
        have hge3 : ¬ (k : Int) < 12 := by omega
        clear hlt
        have hwf := hrel'.out.1
        have henvr : Env wr := henv1.out.below hrel'.out.2.2.2.2.2
        have hT1 := hid (tree_all tb wr (by omega) henvr)
        have hNd : nodesOf tb.data.toList = ⟨0, 1, 0, ⟨#[]⟩, ⟨#[]⟩⟩ :: (ndN t).map Nd.deep := by rw [← htbH.out, S.data_B]; exact nest_nodes t hwf
        rw [hNd] at hT1
        have hown0 := hrel'.out.2.1
        have hdp := hrel'.out.2.2.2.2.1
        have hNpos0 := ndN_pos t
        obtain ⟨N, hNN⟩ : ∃ N, ndN t = N := ⟨_, rfl⟩
        have hnl2 := hnlH.out
        rw [hNN] at hT1 hown0 hdp hNpos0 hnl2
        subst hnl2
        have hNpos : 0 < N.length := hNpos0
        have hbr := hid (hb1H.out.trans (hrel'.out.2.2.2.2.2.mono hz1))
        have hzr : w.heap.size ≤ wr.heap.size := by omega
        have hown0H := hid hown0
        have hdpH : Hid (∀ x ∈ N, 0 ≤ x.depth ∧ x.depth < 1000000) := hid (fun x hx => by have := hdp x hx; omega)
        clear hwf henvr hNd hown0 hdp hNpos0 hNN hrel' hnlH htbH hlkH
        go_wp2_with fail
        refine hT1.out.mono ?_
        rintro e w4 ⟨B2, a2, cp2, rfl, hB2, hown2, hb4⟩
        have hown2H := hid hown2
        have hb4H := hid hb4
        have hz4 : wr.heap.size ≤ w4.heap.size := hb4.size
        clear hown2 hb4
        obtain ⟨W, hW⟩ : ∃ W, W = w4.alloc (.cells #[.int .i64 0, .int .i64 1, .int .i64 0, .string ⟨#[]⟩, .string ⟨#[]⟩] 36) := ⟨_, rfl⟩
        have hbW : Below w4.heap.size w4 W := by rw [hW]; exact (Below.refl _ _).alloc (Nat.le_refl _) _
        have hsW : Hid (W.heap.size = w4.heap.size + 1) := hid (by rw [hW]; simp)
        have hownW : OwnsN w4.heap.size (some ⟨w4.heap.size, 0, none⟩) 1 [⟨0, 1, 0, ⟨#[]⟩, ⟨#[]⟩⟩] W := by rw [hW]; exact lit_owns w4 [⟨0, 1, 0, ⟨#[]⟩, ⟨#[]⟩⟩] 1 rfl (by simp)
        have hD := hid (deeper_any w1.heap.size a cp N W ((hown0H.out.below hb4H.out).below hbW) (by omega) hdpH.out)
        have hbWH := hid hbW
        have hownWH := hid hownW
        clear hbW hownW
        go_wp2_with fail
        rw [← hW]
        clear hW
        refine hD.out.mono ?_
        rintro e w5 ⟨a5, cp5, rfl, hown5, hb5, h50⟩
        have hsW' := hsW.out
        have hb45 : Below w4.heap.size w4 w5 := hbWH.out.trans (hb5.mono (by omega))
        have hz5 : w4.heap.size + 1 ≤ w5.heap.size := by have := hb5.size; omega
        have hownW5 : OwnsN w4.heap.size (some ⟨w4.heap.size, 0, none⟩) 1 [⟨0, 1, 0, ⟨#[]⟩, ⟨#[]⟩⟩] w5 := hownWH.out.below hb5
        have hbfin : Hid (∀ wx, Below w4.heap.size w4 wx → Below w.heap.size w wx) := hid (fun wx hx => hbr.out.trans ((hb4H.out.mono hzr).trans (hx.mono (by omega))))
        obtain ⟨g5, rfl, hg5, hcp5, _⟩ := OwnsN.some hown5 (by rw [List.length_map]; exact hNpos)
        have hnews : Hid (∀ j u, (ndCells (N.map Nd.deep))[j]? = some u → w5.cell? ((⟨g5, 0, none⟩ : Addr).add j) = some u) := hid (fun j u hu => World.ownsRow.cells hown5 (g := g5) rfl j u hu)
        have hlen5 : Hid ((ndCells (N.map Nd.deep)).length = N.length * 5) := hid (by have := hown5.1; rwa [List.length_map] at this)
        have hone : Hid (∀ u ∈ ndCells (N.map Nd.deep), u.oneCell' = true) := hid (nd_one _)
        have hownWH5 := hid hownW5
        have hb45H := hid hb45
        have hbase : w4.heap.size ≤ w5.heap.size := by omega
        clear hsW' hb45 hownW5 hown5 hb5 h50 hD hcp5
        go_wp2_with (at_builtin; refine wpList_append_lies _ (by rfl) _ _ 22 (by rfl) w4.heap.size 36 i0 (.agg #[.int .i64 0, .int .i64 0, .int .i64 0, .string ⟨#[]⟩, .string ⟨#[]⟩]) 5 56 Tryz.underlying22 hi hz0 hz1' hz2' (by rfl) (by omega) (.slice (some ⟨w4.heap.size, 0, none⟩) 1 1) 1 (ndCells [⟨0, 1, 0, ⟨#[]⟩, ⟨#[]⟩⟩]) (by rfl) hownWH5.out ⟨g5, 0, none⟩ N.length cp5 (ndCells (N.map Nd.deep)) (by rfl) hlen5.out hnews.out hone.out hNpos (by unfold maxLen; omega) (by omega) hbase w5.heap.size (by rfl) ?_)
        intro g cap1 w6 hown6 hgrow hat hltg
        have hb46 : Below w4.heap.size w4 w6 := Below.grown hb45H.out hgrow hbase (fun q hq => by
          have : w4.heap.size = q := by simpa [Value.ownBlock] using hq
          omega)
        have hown6' : OwnsN w4.heap.size (some ⟨g, 0, none⟩) cap1 (⟨0, 1, 0, ⟨#[]⟩, ⟨#[]⟩⟩ :: N.map Nd.deep) w6 := by
          unfold OwnsN
          rw [show (⟨0, 1, 0, ⟨#[]⟩, ⟨#[]⟩⟩ : Nd) :: N.map Nd.deep = [⟨0, 1, 0, ⟨#[]⟩, ⟨#[]⟩⟩] ++ N.map Nd.deep from rfl, List.length_append, List.length_map, show ndCells ([⟨0, 1, 0, ⟨#[]⟩, ⟨#[]⟩⟩] ++ N.map Nd.deep) = ndCells [⟨0, 1, 0, ⟨#[]⟩, ⟨#[]⟩⟩] ++ ndCells (N.map Nd.deep) by simp [ndCells]]
          exact hown6
        have hown2' : OwnsN B2 a2 cp2 (⟨0, 1, 0, ⟨#[]⟩, ⟨#[]⟩⟩ :: N.map Nd.deep) w6 := hown2H.out.below hb46
        have hSm := hid (same_true B2 w4.heap.size a2 (some ⟨g, 0, none⟩) cp2 cap1 (⟨0, 1, 0, ⟨#[]⟩, ⟨#[]⟩⟩ :: N.map Nd.deep) w6 hown2' hown6' (by rw [List.length_cons, List.length_map]; omega))
        rw [List.length_cons, List.length_map] at hSm
        have hb46H := hid hb46
        have hadd : 1 + N.length = N.length + 1 := by omega
        have hz6 : w4.heap.size ≤ w6.heap.size := hb46.size
        clear hown6 hgrow hat hltg hb46 hown6' hown2'
        rw [hadd]
        go_wp2_with fail
        refine hSm.out.mono ?_
        rintro e w7 ⟨rfl, hb7⟩
        have hb7H := hid (hb46H.out.trans (hb7.mono hz6))
        clear hb7
        go_wp2
        go_ret
        exact ⟨rfl, hbfin.out _ hb7H.out⟩
end Go.Proofs.YtlojgpkajkedeaaGreatDoor
