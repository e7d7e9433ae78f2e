import Derived.Test.YtlojgpkajkedeaaGreatDoorC9
namespace Go.Proofs.YtlojgpkajkedeaaGreatDoor
open Go.RowKit

theorem B_append (a b : List UInt8) : S.B a ++ S.B b = S.B (a ++ b) := by
  apply ByteArray.ext; simp [S.B]
theorem B_push (a : List UInt8) (l : Array UInt8) : S.B a ++ ⟨l⟩ = S.B (a ++ l.toList) := by
  apply ByteArray.ext; simp [S.B]
theorem gr_succ (j : Nat) : S.gr j ++ [96] = S.gr (j + 1) := by
  simp [S.gr, List.replicate_succ']
/-- The lines, each with its newline. -/
def bodyOf (L : List (List UInt8)) : List UInt8 := (L.map (fun p => p ++ [10])).flatten
theorem bodyOf_snoc (L : List (List UInt8)) (k : Nat) (x : List UInt8) (h : L[k]? = some x) : bodyOf (L.take (k + 1)) = bodyOf (L.take k) ++ (x ++ [10]) := by
  unfold bodyOf; rw [List.take_add_one, h]; simp
theorem bodyOf_take_le (L : List (List UInt8)) (k : Nat) : (bodyOf (L.take k)).length ≤ (bodyOf L).length := by
  induction L generalizing k with
  | nil => simp
  | cons x r ih => cases k with
    | zero => simp [bodyOf]
    | succ k =>
      have := ih k
      unfold bodyOf at *
      simp only [List.take_succ_cons, List.map_cons, List.flatten_cons, List.length_append] at *; omega
theorem bodyOf_len (L : List (List UInt8)) : (bodyOf L).length = (L.map (fun x => x.length + 1)).sum := by
  unfold bodyOf
  induction L with
  | nil => rfl
  | cons x r ih => simp only [List.map_cons, List.flatten_cons, List.length_append, List.sum_cons, ih]; simp
theorem lines_len (l : List UInt8) : (bodyOf (S.lines l)).length ≤ l.length + 1 := by
  rw [bodyOf_len]; unfold S.lines; split
  · simp
  · rw [nl_tot]; have := Lib.trimSuffix_le l [10]; omega

/-- What Tree tells of the text that Fenced makes. -/
theorem fencedTree (n : Nat) (s T : ByteArray) (w : World) (hn : S.most 2 0 s.data.toList < n) (hT : T.data.toList = S.fencedOf n (S.lines s.data.toList)) (hs : T.size ≤ 1500) (henv : Env w) :
    Calls Tryz.prog 14 #[.string T] w fun e w' => ∃ g cp, e = .returned (.tuple #[.slice (some ⟨g, 0, none⟩) 3 cp, .int .i64 0]) ∧ w.heap.size ≤ g ∧ 3 ≤ cp ∧ Below w.heap.size w w' ∧
      (w'.cell? ⟨g, 0, none⟩ = some (.int .i64 0) ∧ w'.cell? ⟨g, 1, none⟩ = some (.int .i64 3) ∧ w'.cell? ⟨g, 2, none⟩ = some (.int .i64 0) ∧ w'.cell? ⟨g, 3, none⟩ = some (.string ⟨#[115, 111, 32, 105, 116, 32, 105, 115]⟩) ∧ w'.cell? ⟨g, 4, none⟩ = some (.string (S.B (bodyOf (S.lines s.data.toList))))) ∧
      (w'.cell? ⟨g, 5, none⟩ = some (.int .i64 0) ∧ w'.cell? ⟨g, 6, none⟩ = some (.int .i64 2) ∧ w'.cell? ⟨g, 7, none⟩ = some (.int .i64 1) ∧ w'.cell? ⟨g, 8, none⟩ = some (.string ⟨#[]⟩) ∧ w'.cell? ⟨g, 9, none⟩ = some (.string ⟨#[]⟩)) := by
  obtain ⟨ts, hts⟩ : ∃ ts, ts = [S.Blk.mk 3 0 S.soInfo (bodyOf (S.lines s.data.toList)) false [], S.Blk.at_ (((S.lines s.data.toList).length + 2 : Nat) : Int) 2 1 [] [97] false []] := ⟨_, rfl⟩
  have hrow : (S.readRow (T.size + 1) (S.lines T.data.toList)).1 = ts := by rw [hT, hts]; exact S.fenced_all _ n 2 _ (Nat.le_refl _) hn
  have hflat : flatL contA 0 ts = [⟨0, 3, 0, S.B S.soInfo, S.B (bodyOf (S.lines s.data.toList))⟩, ⟨0, 2, 1, ⟨#[]⟩, ⟨#[]⟩⟩, ndA 1] := by
    rw [hts]; simp [flatL, flatB, textOf, S.B, contA, ndA]
  have hgood : goodL isA 0 ts := by rw [hts]; simp [goodL, goodB, isA]
  refine (tree_any isA contA contA_ok T w hs henv ts hrow hgood (by rw [hflat]; simp)).mono ?_
  rintro e w' ⟨B, a, cp, h1, h2, h3, h4⟩
  rw [hflat] at h1 h3
  obtain ⟨g, rfl, h5, h6, h7⟩ := h3.some (by simp)
  refine ⟨g, cp, h1, by omega, h6, h4, ⟨?_, ?_, ?_, ?_, ?_⟩, ⟨?_, ?_, ?_, ?_, ?_⟩⟩
  · exact h7 0 0 _ _ rfl (by decide) rfl
  · exact h7 0 1 _ _ rfl (by decide) rfl
  · exact h7 0 2 _ _ rfl (by decide) rfl
  · exact h7 0 3 _ _ rfl (by decide) rfl
  · exact h7 0 4 _ _ rfl (by decide) rfl
  · exact h7 1 0 _ _ rfl (by decide) rfl
  · exact h7 1 1 _ _ rfl (by decide) rfl
  · exact h7 1 2 _ _ rfl (by decide) rfl
  · exact h7 1 3 _ _ rfl (by decide) rfl
  · exact h7 1 4 _ _ rfl (by decide) rfl

set_option maxRecDepth 100000 in
set_option maxHeartbeats 8000000 in
theorem fenced_any (s : ByteArray) (wide : Int) (w : World) (hs : s.size ≤ 1048576) (hw1 : -9223372036854775808 ≤ wide) (hw2 : wide ≤ 9223372036854775807) (henv : Env w) :
    Calls Tryz.prog 4 #[.string s, .int .i64 wide] w fun e w' => e = .returned (.bool true) ∧ Below w.heap.size w w' := by
  have hBl := hid (blocks_any w henv)
  have henvH := hid henv
  obtain ⟨p, hp⟩ : ∃ p, pk wide = p := ⟨_, rfl⟩
  have hp4 : p < 4 := by rw [← hp]; exact pk_lt wide
  have hPk : Hid (∀ wx, Calls Tryz.prog 21 #[.int .i64 wide, .int .i64 4] wx fun e w' => e = .returned (.int .i64 (p : Nat)) ∧ wx = w') := hid (fun wx => by have := pick_four wide wx hw1 hw2; rw [hp] at this; exact this)
  obtain ⟨M, hM⟩ : ∃ M, S.most 2 0 s.data.toList = M := ⟨_, rfl⟩
  have hMle : M ≤ 1048578 := by
    rw [← hM]; have := S.most_le 2 0 s.data.toList (by omega); rw [S.length_data] at this; omega
  have hMH := hid hM
  clear henv hp hM
  go_enter Tryz.func4, Tryz.ntmps4
  go_wp2_with fail
  refine hBl.out.mono ?_
  rintro e w1 ⟨rfl, hb1⟩
  have henv1 := hid (henvH.out.below hb1)
  have hb1H := hid hb1
  clear hb1
  go_wp2
  go_loop [6, 7, 8] (fun m n i => ∃ (k mm nn : Nat), k ≤ s.size ∧ m = .int .i64 mm ∧ n = .int .i64 nn ∧ i = .int .i64 k ∧ Hid (S.most mm nn (s.data.toList.drop k) = M) ∧ nn ≤ k ∧ mm ≤ k + 2) (fun _ _ i => s.size - (intOf i).toNat)
  case atStart => exact ⟨0, 2, 0, Nat.zero_le _, rfl, rfl, rfl, hid hMH.out, Nat.le_refl _, Nat.le_refl _⟩
  case round =>
    obtain ⟨k, mm, nn, hk, rfl, rfl, rfl, hmost, hnn, hmm⟩ := hrel
    by_cases hlt : k < s.size
    · have hg := S.get_data s k hlt
      have hdr : Hid (s.data.toList.drop k = s[k] :: s.data.toList.drop (k + 1)) := hid (by
        obtain ⟨hl', hx'⟩ := List.getElem?_eq_some_iff.1 hg
        rw [List.drop_eq_getElem_cons hl', hx'])
      clear hg
      by_cases hx : s[k] = 96
      · have hxn : s[k].toNat = 96 := by rw [hx]; rfl
        have hm2 : Hid (S.most (max mm (nn + 1)) (nn + 1) (s.data.toList.drop (k + 1)) = M) := hid (by
          have := hmost.out; rw [hdr.out] at this; unfold S.most at this; rw [if_pos hx] at this; exact this)
        clear hx hmost
        go_wp2
        go_round
        case rel => exact ⟨k + 1, max mm (nn + 1), nn + 1, by omega, by go_num, by go_num, by go_num, hm2, by omega, by omega⟩
        case measure => simp [intOf]; omega
      · have hxb : (((s[k].toNat : Nat) : Int) == 96) = false := by
          rw [beq_eq_false_iff_ne]; intro e; exact hx (UInt8.toNat_inj.1 (by show s[k].toNat = 96; omega))
        have hm2 : Hid (S.most (max mm 0) 0 (s.data.toList.drop (k + 1)) = M) := hid (by
          have := hmost.out; rw [hdr.out] at this; unfold S.most at this; rw [if_neg hx] at this; exact this)
        clear hx hmost
        go_wp2
        go_round
        case rel => exact ⟨k + 1, max mm 0, 0, by omega, by go_num, by go_num, by go_num, hm2, by omega, by omega⟩
        case measure => simp [intOf]; omega
    · have hmM : mm = M := by
        have := hmost.out; rw [List.drop_eq_nil_of_le (by rw [S.length_data]; omega)] at this; exact this
      subst hmM
      clear hmost hmm
      have hLn := hid (lines_any s w1 hs)
      have hm6 : (mm : Int) + (p : Int) ≤ 2000000 := by omega
      go_wp2
      go_loop [9, 10] (fun fz i => ∃ j : Nat, j ≤ mm + p + 1 ∧ fz = .string (S.B (S.gr j)) ∧ i = .int .i64 j) (fun _ i => mm + p + 1 - (intOf i).toNat)
      case atStart => exact ⟨0, Nat.zero_le _, rfl, rfl⟩
      case round =>
        obtain ⟨j, hj, rfl, rfl⟩ := hrel
        have hgs : (S.B (S.gr j)).size = j := by rw [S.size_B]; simp [S.gr]
        have hpush : Hid (S.B (S.gr j) ++ ⟨#[96]⟩ = S.B (S.gr (j + 1))) := hid (by rw [B_push, ← gr_succ])
        by_cases hlt2 : j ≤ mm + p
        · have hji : (j : Int) ≤ (mm : Int) + (p : Int) := by omega
          go_wp2_with (go_at_call 21; refine (hPk.out _).mono ?_; rintro e w' ⟨rfl, rfl⟩)
          go_round
          case rel => exact ⟨j + 1, by omega, by rw [hpush.out], by go_num⟩
          case measure => simp [intOf]; omega
        · obtain rfl : j = mm + p + 1 := by omega
          have hji : ¬ ((mm : Int) + (p : Int) + 1 ≤ (mm : Int) + (p : Int)) := by omega
          clear hpush
          go_wp2_with (go_at_call 21; refine (hPk.out _).mono ?_; rintro e w' ⟨rfl, rfl⟩)
          refine hLn.out.mono ?_
          rintro e w2 ⟨os, a, cp, rfl, hdos, hown, hb2⟩
          have hcells : Hid (∀ k x, os[k]? = some x → ∃ g, a = some ⟨g, 0, none⟩ ∧ w2.cell? ⟨g, k, none⟩ = some (.string x)) := hid (fun k x hx => by
            have hlx := (List.getElem?_eq_some_iff.1 hx).1
            rcases hown.2 with ⟨h1, h2⟩ | ⟨g, cap, cur, h1, h2, h3, h4, h5, h6, h7⟩
            · omega
            · cases h1
              refine ⟨g, rfl, ?_⟩
              have hc : (os.map Value.string)[k]? = some (.string x) := by rw [List.getElem?_map, hx]; rfl
              have := hown.cells (g := g) rfl k _ hc
              have ha : (⟨g, 0, none⟩ : Addr).add k = ⟨g, k, none⟩ := by
                simp only [Addr.add]; split
                · rename_i h; simp <;> omega
                · simp <;> omega
              rw [← ha]; exact this)
          have hbl : (bodyOf (dat os)).length ≤ s.size + 1 := by rw [hdos.out, ← S.length_data]; exact lines_len _
          have hosl : os.length ≤ 1048577 := by
            have h1 := bodyOf_len (dat os)
            have h2 : ∀ l : List (List UInt8), l.length ≤ (l.map (fun x => x.length + 1)).sum := by
              intro l; induction l with
              | nil => simp
              | cons x r ih => simp only [List.map_cons, List.sum_cons, List.length_cons]; omega
            have h3 := h2 (dat os); rw [dat_length] at h3; omega
          have henv2 := hid (henv1.out.below hb2)
          have hb2H := hid (hb1H.out.trans (hb2.mono hb1H.out.size))
          have hz2 : w.heap.size ≤ w2.heap.size := hb2H.out.size
          clear hown hb2
          go_wp2
          go_loop [12, 13] (fun bz i => ∃ k : Nat, k ≤ os.length ∧ bz = .string (S.B (bodyOf ((dat os).take k))) ∧ i = .int .i64 k) (fun _ i => os.length - (intOf i).toNat)
          case atStart => exact ⟨0, Nat.zero_le _, rfl, rfl⟩
          case round =>
            obtain ⟨k3, hk3, rfl, rfl⟩ := hrel
            have hbs : (S.B (bodyOf ((dat os).take k3))).size ≤ 1048577 := by
              rw [S.size_B]; have := bodyOf_take_le (dat os) k3; omega
            by_cases hlt3 : k3 < os.length
            · obtain ⟨x, hx⟩ : ∃ x, os[k3]? = some x := ⟨os[k3], List.getElem?_eq_getElem hlt3⟩
              obtain ⟨g, rfl, hcell⟩ := hcells.out k3 x hx
              have hdx : (dat os)[k3]? = some x.data.toList := by rw [dat_get, hx]; rfl
              have hnx : Hid (S.B (bodyOf ((dat os).take k3)) ++ x ++ ⟨#[10]⟩ = S.B (bodyOf ((dat os).take (k3 + 1)))) := hid (by
                rw [bodyOf_snoc _ _ _ hdx]
                conv => lhs; rw [← S.B_data x]
                rw [B_append, B_push, List.append_assoc])
              have hxs : x.size ≤ 1048577 := by
                have h1 := bodyOf_take_le (dat os) (k3 + 1)
                rw [bodyOf_snoc _ _ _ hdx, List.length_append, List.length_append, S.length_data] at h1; omega
              clear hx hdx
              go_wp2
              go_round
              case rel => exact ⟨k3 + 1, by omega, by rw [hnx.out], by go_num⟩
              case measure => simp [intOf]; omega
            · obtain rfl : k3 = os.length := by omega
              rw [List.take_of_length_le (by rw [dat_length]; exact Nat.le_refl _), hdos.out] at hbs ⊢
              have hT : Hid ((S.B (S.gr (mm + p + 1)) ++ ⟨#[32, 32, 115, 111, 32, 105, 116, 32, 105, 115, 32, 10]⟩ ++ S.B (bodyOf (S.lines s.data.toList)) ++ S.B (S.gr (mm + p + 1)) ++ ⟨#[10, 35, 32, 97]⟩).data.toList = S.fencedOf (mm + p + 1) (S.lines s.data.toList)) := hid (by
                rw [B_push, B_append, B_append, B_push, S.data_B]
                simp [S.fencedOf, S.soItIs, S.hashA, bodyOf, List.append_assoc])
              have hTs : Hid (((S.B (S.gr (mm + p + 1)) ++ ⟨#[32, 32, 115, 111, 32, 105, 116, 32, 105, 115, 32, 10]⟩ ++ S.B (bodyOf (S.lines s.data.toList)) ++ S.B (S.gr (mm + p + 1)) ++ ⟨#[10, 35, 32, 97]⟩).size : Int) = (mm : Int) + p + 1 + 12 + ((S.B (bodyOf (S.lines s.data.toList))).size : Int) + ((mm : Int) + p + 1) + 4) := hid (by
                have e1 : (⟨#[32, 32, 115, 111, 32, 105, 116, 32, 105, 115, 32, 10]⟩ : ByteArray).size = 12 := rfl
                have e2 : (⟨#[10, 35, 32, 97]⟩ : ByteArray).size = 4 := rfl
                simp only [ByteArray.size_append, hgs, e1, e2]; omega)
              have hbF : Hid (S.most 2 0 s.data.toList < mm + p + 1) := hid (by rw [hMH.out]; omega)
              by_cases h15 : (mm : Int) + p + 1 + 12 + ((S.B (bodyOf (S.lines s.data.toList))).size : Int) + ((mm : Int) + p + 1) + 4 ≤ 1500
              · have hTr := hid (fencedTree (mm + p + 1) s _ w2 hbF.out hT.out (by have := hTs.out; omega) henv2.out)
                clear hcells
                go_wp2_with fail
                refine hTr.out.mono ?_
                rintro e w3 ⟨g, cp3, rfl, hg, hcp, hb3, ⟨a0, a1, a2, a3, a4⟩, ⟨b0, b1, b2, b3, b4⟩⟩
                have hb3H := hid hb3
                clear hb3
                go_wp2
                go_ret
                exact ⟨rfl, hb2H.out.trans (hb3H.out.mono hz2)⟩
              · go_wp2
                go_ret
                exact ⟨rfl, hb2H.out⟩

end Go.Proofs.YtlojgpkajkedeaaGreatDoor
