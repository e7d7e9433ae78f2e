import Derived.Test.YtlojgpkajkedeaaGreatDoorW16
import Derived.Test.YtlojgpkajkedeaaGreatDoorStr
namespace Go.Proofs.YtlojgpkajkedeaaGreatDoor
open Go.RowKit

theorem nl_tot (l : List UInt8) : ((S.nl l).map (fun x => x.length + 1)).sum = l.length + 1 := by
  induction l with
  | nil => rfl
  | cons b l ih =>
    simp only [S.nl]; split
    · simp [ih]; omega
    · cases hn : S.nl l with
      | nil => have := S.nl_length l; rw [hn] at this; simp at this
      | cons p r => rw [hn] at ih; simp at ih ⊢; omega
theorem tot_dat (ss : List ByteArray) : tot ss = ((dat ss).map (fun x => x.length + 1)).sum := by
  unfold tot dat
  rw [List.map_map]
  have : (fun s : ByteArray => s.size + 1) = ((fun x : List UInt8 => x.length + 1) ∘ fun s : ByteArray => s.data.toList) := by
    funext s; show s.size + 1 = s.data.toList.length + 1; rw [S.length_data]
  rw [this]

set_option maxHeartbeats 1000000 in
theorem splitLines_some (s : ByteArray) (w : World) (hpos : 0 < s.size) (hs : s.size ≤ 999998) (henv : Env w) :
    Calls Tryz.prog 65 #[.string s] w fun e w' => ∃ os, e = .returned (.slice (some ⟨w.heap.size, 0, none⟩) os.length os.length) ∧ RowS w' w.heap.size 0 os ∧ Hid (dat os = S.lines s.data.toList) ∧ w.heap.size < w'.heap.size ∧ Below w.heap.size w w' := by
  obtain ⟨_, ⟨mx, hmx⟩, _⟩ := henv
  have hne := S.isEmpty_of_pos s hpos
  have hne' := S.ne_nil_of_pos s hpos
  have hlne : s.data.toList ≠ [] := by rw [← Lib.toList_data]; exact hne'
  obtain ⟨t, ht⟩ : ∃ t : List UInt8, t = Lib.trimSuffix s.data.toList [10] := ⟨_, rfl⟩
  have htl : t.length ≤ s.size := by rw [ht, ← S.length_data]; exact Lib.trimSuffix_le _ _
  have hcB : Lib.countB ⟨t.toArray⟩ ⟨#[10]⟩ = t.count 10 := by
    show Lib.count (ByteArray.mk t.toArray).data.toList [10] = _
    rw [S.data_B', Lib.count_one]
  have hsp : dat (Lib.splitB ⟨#[10]⟩ 0 (t.count 10) ⟨t.toArray⟩) = S.nl t := by
    show List.map (fun s : ByteArray => s.data.toList) _ = _
    rw [Lib.splitB_data, S.data_B']; exact S.splitK_nl t
  have hlen : (Lib.splitB ⟨#[10]⟩ 0 (t.count 10) ⟨t.toArray⟩).length = t.count 10 + 1 := by
    rw [← dat_length, hsp, S.nl_length]
  have htot : tot (Lib.splitB ⟨#[10]⟩ 0 (t.count 10) ⟨t.toArray⟩) ≤ 1000000 := by rw [tot_dat, hsp, nl_tot]; omega
  have hSP : Hid (Calls Tryz.prog 86 #[.string ⟨t.toArray⟩, .string ⟨#[10]⟩] w fun e w' =>
      e = .returned (.slice (some ⟨w.heap.size, 0, none⟩) (t.count 10 + 1) (t.count 10 + 1)) ∧ w' = w.alloc (.cells ((Lib.splitB ⟨#[10]⟩ 0 (t.count 10) ⟨t.toArray⟩).map Value.string).toArray 9)) := hid (by
    have := Tryz.strings_Split ⟨t.toArray⟩ ⟨#[10]⟩ mx w (by rw [S.size_B']; omega) hmx (by decide)
    rw [hcB] at this; exact this)
  have hTS : Hid (Calls Tryz.prog 87 #[.string s, .string ⟨#[10]⟩] w fun e w' => e = .returned (.string ⟨t.toArray⟩) ∧ w = w') := hid (by
    have := Tryz.strings_TrimSuffix s ⟨#[10]⟩ w (by omega)
    rw [ht]; exact this.mono (fun e w' ⟨h1, h2⟩ => ⟨h1, h2.symm⟩))
  have hfin : Hid (dat (Lib.splitB ⟨#[10]⟩ 0 (t.count 10) ⟨t.toArray⟩) = S.lines s.data.toList) := hid (by rw [hsp]; unfold S.lines; rw [if_neg hlne, ht])
  obtain ⟨os, hos⟩ : ∃ os, os = Lib.splitB ⟨#[10]⟩ 0 (t.count 10) ⟨t.toArray⟩ := ⟨_, rfl⟩
  rw [← hos] at hSP hfin hlen htot
  have hlenH := hid hlen
  clear hcB hsp hlne ht hos hmx hlen
  go_enter Tryz.func65, Tryz.ntmps65
  go_wp2_with fail
  refine hTS.out.mono ?_
  rintro e w' ⟨rfl, rfl⟩
  go_wp2_with fail
  refine hSP.out.mono ?_
  rintro e w' ⟨rfl, rfl⟩
  go_wp2
  go_ret
  refine ⟨os, by rw [hlenH.out]; rfl, ⟨?_, htot⟩, hfin, by simp, (Below.refl _ _).alloc (Nat.le_refl _) _⟩
  intro i x hi
  rw [Nat.zero_add]
  exact cell_blk (alloc_new _ _) i _ (by simp [hi])

set_option maxHeartbeats 1000000 in
theorem splitLines_empty (s : ByteArray) (w : World) (h0 : s.size = 0) :
    Calls Tryz.prog 65 #[.string s] w fun e w' => e = .returned (.slice none 0 0) ∧ w = w' := by
  have he := S.nil_of_zero s h0
  clear h0
  go_enter Tryz.func65, Tryz.ntmps65
  go_wp2
  go_ret
  exact ⟨rfl, rfl⟩

set_option maxHeartbeats 1000000 in
theorem readRow_nil (w : World) :
    Calls Tryz.prog 64 #[.slice none 0 0] w fun e w' => e = .returned (.tuple #[.slice none 0 0, .bool false]) ∧ w = w' := by
  have hCB : Hid (Calls Tryz.prog 84 #[.slice none 0 0] w fun e w' => e = .returned (.int .i64 0) ∧ w = w') := hid ((countBlank_nil w).mono (fun e w' ⟨h1, h2⟩ => ⟨h1, h2.symm⟩))
  go_enter Tryz.func64, Tryz.ntmps64
  go_wp2_with (go_at_call 84; refine hCB.out.mono ?_; rintro e w' ⟨rfl, rfl⟩)
  refine wp_loop_rounds 1 ?_
  rw [rounds_succ]
  go_wp2
  go_ret2
  exact ⟨rfl, rfl⟩

theorem nl_bytes (l : List UInt8) : bytes (S.nl l) ≤ l.length := by
  induction l with
  | nil => simp [S.nl, bytes]
  | cons b l ih =>
    simp only [S.nl]; split
    · simp only [bytes, List.map_cons, List.sum_cons, List.length_nil, List.length_cons] at *; omega
    · cases hn : S.nl l with
      | nil => simp [bytes]
      | cons p r => rw [hn] at ih; simp only [bytes, List.map_cons, List.sum_cons, List.length_cons] at *; omega

set_option maxHeartbeats 1000000 in
theorem read_any (hAll : ∀ d, RowOK d) (s : ByteArray) (w : World) (hs : s.size ≤ 999998) (henv : Env w) :
    Calls Tryz.prog 45 #[.string s] w fun e w' => ∃ v, e = .returned v ∧ Rep w' (fun x => w.heap.size ≤ x ∧ x < w'.heap.size) v (S.readRow (s.size + 1) (S.lines s.data.toList)).1 ∧ Below w.heap.size w w' := by
  have hAllH := hid hAll
  clear hAll
  by_cases h0 : s.size = 0
  · have hl : Hid (S.readRow (s.size + 1) (S.lines s.data.toList) = ([], false)) := hid (by
      rw [S.data_nil_of_zero s h0]; rfl)
    have hSE := hid (splitLines_empty s w h0)
    have hRN := hid (readRow_nil w)
    clear h0
    go_enter Tryz.func45, Tryz.ntmps45
    go_wp2_with fail
    refine hSE.out.mono ?_
    rintro e w' ⟨rfl, rfl⟩
    go_wp2_with fail
    refine hRN.out.mono ?_
    rintro e w' ⟨rfl, rfl⟩
    go_wp2
    go_ret
    exact ⟨_, rfl, by rw [hl.out]; exact .nil, Below.refl _ _⟩
  · have hSS := hid (splitLines_some s w (by omega) hs henv)
    go_enter Tryz.func45, Tryz.ntmps45
    go_wp2_with fail
    refine hSS.out.mono ?_
    rintro e w1 ⟨os, rfl, hro, hdo, hlt, hb1⟩
    have hRR := hid (hAllH.out (s.size + 1) w.heap.size 0 os.length os w1 (Nat.le_refl _) hlt hro (henv.below hb1) (by
      rw [hdo.out]; unfold S.lines; split
      · simp [bytes]
      · have h1 := nl_bytes (Lib.trimSuffix s.data.toList [10])
        have h2 := Lib.trimSuffix_le s.data.toList [10]
        rw [S.length_data] at h2; omega))
    rw [hdo.out] at hRR
    have hb1H := hid hb1
    have hs1 := hb1.size
    clear hb1 hro
    go_wp2_with fail
    refine hRR.out.mono ?_
    rintro e w2 ⟨v, rfl, hrep, hb2⟩
    obtain ⟨ka, kn, kc, rfl⟩ := hrep.form
    have hrepH := hid hrep
    have hb2H := hid hb2
    clear hrep hb2
    go_wp2
    go_ret
    exact ⟨_, rfl, hrepH.out.move (fun x hx => ⟨by omega, hx.2⟩) (fun _ _ => rfl), hb1H.out.trans (hb2H.out.mono hs1)⟩

end Go.Proofs.YtlojgpkajkedeaaGreatDoor
