import Derived.Test.YtlojgpkajkedeaaGreatDoorQN
import Derived.Test.YtlojgpkajkedeaaGreatDoorC11
import Derived.Laws.AppendOwnNone
/- Quoted: the walk of the statement. -/
namespace Go.Proofs.YtlojgpkajkedeaaGreatDoor
open Go.RowKit

theorem S.quotedOf_snoc (L : List (List UInt8)) (k : Nat) (x : List UInt8) (h : L[k]? = some x) : S.quotedOf (L.take (k + 1)) = S.quotedOf (L.take k) ++ (62 :: 32 :: x ++ [10]) := by
  unfold S.quotedOf; rw [List.take_add_one, h]; simp
theorem S.quotedOf_len (L : List (List UInt8)) : (S.quotedOf L).length = bytes L + 3 * L.length := by
  induction L with
  | nil => rfl
  | cons p r ih =>
    have e : S.quotedOf (p :: r) = (62 :: 32 :: p ++ [10]) ++ S.quotedOf r := by simp [S.quotedOf]
    rw [e, List.length_append, ih]
    simp only [bytes, List.map_cons, List.sum_cons, List.length_cons, List.length_append, List.length_nil]; omega
theorem S.quotedOf_take (L : List (List UInt8)) (k : Nat) : (S.quotedOf (L.take k)).length ≤ (S.quotedOf L).length := by
  rw [S.quotedOf_len, S.quotedOf_len]
  have h1 : bytes (L.take k) + bytes (L.drop k) = bytes L := by
    conv => rhs; rw [← List.take_append_drop k L]
    simp only [bytes, List.map_append, List.sum_append]
  have h2 : (L.take k).length ≤ L.length := by rw [List.length_take]; omega
  omega
theorem S.nl_sum (l : List UInt8) : bytes (S.nl l) + (S.nl l).length = l.length + 1 := by
  induction l with
  | nil => rfl
  | cons c r ih =>
    unfold S.nl
    split
    · simp only [bytes, List.map_cons, List.sum_cons, List.length_nil, List.length_cons] at *; omega
    · cases hn : S.nl r with
      | nil => rw [hn] at ih; simp [bytes] at ih
      | cons p t =>
        rw [hn] at ih
        simp only [bytes, List.map_cons, List.sum_cons, List.length_cons] at *; omega
theorem S.lines_sum (l : List UInt8) : l.length ≤ bytes (S.lines l) + (S.lines l).length ∧ bytes (S.lines l) + (S.lines l).length ≤ l.length + 1 := by
  unfold S.lines
  split
  · rename_i h; subst h; exact ⟨Nat.zero_le _, Nat.zero_le _⟩
  · rw [S.nl_sum]
    have h1 : (Lib.trimSuffix l [10]).length ≤ l.length ∧ l.length ≤ (Lib.trimSuffix l [10]).length + 1 := by
      unfold Lib.trimSuffix
      split
      · rw [List.length_take]; simp only [List.length_singleton]; omega
      · omega
    omega
def quoteNd : Nd := ⟨0, 5, 0, ⟨#[]⟩, ⟨#[]⟩⟩
theorem nodes_quoted (l : List UInt8) (hne : S.lines l ≠ []) : nodesOf (S.quotedOf (S.lines l)) = quoteNd :: (nodesOf l).map Nd.deep := by
  have hs := S.lines_sum l
  have hq := S.quotedOf_len (S.lines l)
  have hpos : 0 < (S.lines l).length := List.length_pos_iff.2 hne
  unfold nodesOf
  have := S.quoted_all (l.length + 1) (S.quotedOf (S.lines l)).length l hne (by omega) (by omega)
  rw [this]
  simp only [flatL, flatB, List.append_nil]
  rw [if_neg (by decide), List.nil_append, flatL_deep]
  rfl

set_option maxRecDepth 100000 in
set_option maxHeartbeats 8000000 in
theorem quoted_any (s : ByteArray) (w : World) (hs : s.size ≤ 1048576) (henv : Env w) :
    Calls Tryz.prog 6 #[.string s] w fun e w' => e = .returned (.bool true) ∧ Below w.heap.size w w' := by
  have hBl := hid (blocks_any w henv)
  have henvH := hid henv
  obtain ⟨i0, hi, hz0, hz1, hz2⟩ := info_parts Tryz.infoNode
  clear henv
  go_enter Tryz.func6, Tryz.ntmps6
  go_wp2_with fail
  refine hBl.out.mono ?_
  rintro e w1 ⟨rfl, hb1⟩
  have henv1 := hid (henvH.out.below hb1)
  have hb1H := hid hb1
  clear hb1
  have hLn := hid (lines_any s w1 hs)
  go_wp2_with fail
  refine hLn.out.mono ?_
  rintro e w2 ⟨os, a, cp, rfl, hdos, hown, hb2⟩
  have hcells : Hid (∀ k x, os[k]? = some x → ∃ g, a = some ⟨g, 0, none⟩ ∧ w2.cell? ⟨g, k, none⟩ = some (.string x)) := hid (fun k x hx => by
    have hlx := (List.getElem?_eq_some_iff.1 hx).1
    rcases hown.2 with ⟨h1, h2⟩ | ⟨g, cap, cur, h1, h2, h3, h4, h5, h6, h7⟩
    · omega
    · cases h1
      refine ⟨g, rfl, ?_⟩
      have hc : (os.map Value.string)[k]? = some (.string x) := by rw [List.getElem?_map, hx]; rfl
      have := hown.cells (g := g) rfl k _ hc
      have ha : (⟨g, 0, none⟩ : Addr).add k = ⟨g, k, none⟩ := by
        simp only [Addr.add]; split
        · rename_i h; simp <;> omega
        · simp <;> omega
      rw [← ha]; exact this)
  have hsum := S.lines_sum s.data.toList
  rw [← hdos.out, S.length_data, dat_length] at hsum
  have hosl : os.length ≤ 1048577 := by omega
  have hql := S.quotedOf_len (dat os)
  rw [dat_length] at hql
  have henv2 := hid (henv1.out.below hb2)
  have hb2H := hid (hb1H.out.trans (hb2.mono hb1H.out.size))
  have hz2w : w.heap.size ≤ w2.heap.size := hb2H.out.size
  clear hown hb2
  go_wp2
  go_loop [5, 6] (fun q i => ∃ k : Nat, k ≤ os.length ∧ q = .string (S.B (S.quotedOf ((dat os).take k))) ∧ i = .int .i64 k) (fun _ i => os.length - (intOf i).toNat)
  case atStart => exact ⟨0, Nat.zero_le _, rfl, rfl⟩
  case round =>
    obtain ⟨k, hk, rfl, rfl⟩ := hrel
    have hbs : (S.B (S.quotedOf ((dat os).take k))).size ≤ 8000000 := by
      rw [S.size_B]; have := S.quotedOf_take (dat os) k; omega
    by_cases hlt : k < os.length
    · obtain ⟨x, hx⟩ : ∃ x, os[k]? = some x := ⟨os[k], List.getElem?_eq_getElem hlt⟩
      obtain ⟨g, rfl, hcell⟩ := hcells.out k x hx
      have hdx : (dat os)[k]? = some x.data.toList := by rw [dat_get, hx]; rfl
      have hnx : Hid (S.B (S.quotedOf ((dat os).take k)) ++ ⟨#[62, 32]⟩ ++ x ++ ⟨#[10]⟩ = S.B (S.quotedOf ((dat os).take (k + 1)))) := hid (by
        rw [S.quotedOf_snoc _ _ _ hdx]
        conv => lhs; rw [← S.B_data x]
        rw [B_push, B_append, B_push]
        simp)
      have hxs : x.size ≤ 8000000 := by
        have h1 := S.quotedOf_take (dat os) (k + 1)
        rw [S.quotedOf_snoc _ _ _ hdx, List.length_append] at h1
        simp only [List.length_cons, List.length_append, S.length_data, List.length_nil] at h1; omega
      clear hx hdx
      go_wp2
      go_round
      case rel => exact ⟨k + 1, by omega, by rw [hnx.out], by go_num⟩
      case measure => simp [intOf]; omega
    · obtain rfl : k = os.length := by omega
      rw [List.take_of_length_le (by rw [dat_length]; exact Nat.le_refl _)] at hbs ⊢
      obtain ⟨q, hq⟩ : ∃ q, S.B (S.quotedOf (dat os)) = q := ⟨_, rfl⟩
      have hqd : Hid (q.data.toList = S.quotedOf (S.lines s.data.toList)) := hid (by rw [← hq, S.data_B, hdos.out])
      have hqz : q.size = bytes (dat os) + 3 * os.length := by rw [← hq, S.size_B]; exact hql
      rw [hq] at hbs ⊢
      clear hq hcells
      by_cases h15 : 1500 < q.size
      · have h15i : (1500 : Int) < (q.size : Int) := by omega
        clear hqz hql hsum
        go_wp2
        go_ret
        exact ⟨rfl, hb2H.out⟩
      · have h15i : ¬ (1500 : Int) < (q.size : Int) := by omega
        by_cases h0 : os.length = 0
        · have h0i : ((os.length : Int) == 0) = true := by rw [beq_iff_eq]; omega
          clear hqz hql hsum
          go_wp2
          go_ret
          exact ⟨rfl, hb2H.out⟩
        · have h0i : ((os.length : Int) == 0) = false := by rw [beq_eq_false_iff_ne]; omega
          have hss : s.size ≤ 1500 := by omega
          have hne : S.lines s.data.toList ≠ [] := by
            rw [← hdos.out]; intro e; have := congrArg List.length e; rw [dat_length] at this; exact h0 this
          have hT1 := hid (tree_all s w2 hss henv2.out)
          have hT2 := hid (fun (wx : World) (hx : Below w2.heap.size w2 wx) => tree_all q wx (by omega) (henv2.out.below hx))
          have hN : Hid (nodesOf q.data.toList = quoteNd :: (nodesOf s.data.toList).map Nd.deep) := hid (by rw [hqd.out]; exact nodes_quoted _ hne)
          have hdp : Hid (∀ x ∈ nodesOf s.data.toList, 0 ≤ x.depth ∧ x.depth < 1000000) := hid (fun x hx => by
            have := nodesOf_depth _ x hx
            rw [S.length_data] at this
            exact ⟨this.1, by omega⟩)
          have hnl := nodesOf_len s.data.toList
          rw [S.length_data] at hnl
          obtain ⟨N, hNN⟩ : ∃ N, nodesOf s.data.toList = N := ⟨_, rfl⟩
          rw [hNN] at hT1 hN hdp hnl
          rw [hN.out] at hT2
          have hNl : N.length ≤ 30010 := by omega
          clear hNN hne hqz hql hsum hnl hN
          go_wp2_with fail
          refine hT1.out.mono ?_
          rintro e w3 ⟨B1, a1, cp1, rfl, hB1, hown1, hb3⟩
          have hown1H := hid hown1
          have hb3H := hid hb3
          have hT2' := hid (hT2.out w3 hb3)
          have hz3 : w2.heap.size ≤ w3.heap.size := hb3.size
          clear hown1 hb3
          go_wp2_with fail
          refine hT2'.out.mono ?_
          rintro e w4 ⟨B2, a2, cp2, rfl, hB2, hown2, hb4⟩
          have hown2H := hid hown2
          have hb4H := hid hb4
          have hz4 : w3.heap.size ≤ w4.heap.size := hb4.size
          clear hown2 hb4
          obtain ⟨W, hW⟩ : ∃ W, W = w4.alloc (.cells #[.int .i64 0, .int .i64 5, .int .i64 0, .string ⟨#[]⟩, .string ⟨#[]⟩] 36) := ⟨_, rfl⟩
          have hbW : Below w4.heap.size w4 W := by rw [hW]; exact (Below.refl _ _).alloc (Nat.le_refl _) _
          have hsW : Hid (W.heap.size = w4.heap.size + 1) := hid (by rw [hW]; simp)
          have hownW : OwnsN w4.heap.size (some ⟨w4.heap.size, 0, none⟩) 1 [quoteNd] W := by
            refine ⟨rfl, .inr ⟨w4.heap.size, 1, _, rfl, Nat.le_refl _, by rw [hW]; exact alloc_new _ _, Nat.le_refl _, by decide, rfl, rfl⟩⟩
          have hD := hid (deeper_any B1 a1 cp1 N W ((hown1H.out.below hb4H.out).below hbW) (by omega) hdp.out)
          have hbWH := hid hbW
          have hownWH := hid hownW
          clear hbW hownW
          go_wp2_with fail
          rw [← hW]
          clear hW
          refine hD.out.mono ?_
          rintro e w5 ⟨a5, cp5, rfl, hown5, hb5, h50⟩
          have hsW' := hsW.out
          have hb45 : Below w4.heap.size w4 w5 := hbWH.out.trans (hb5.mono (by omega))
          have hz5 : w4.heap.size + 1 ≤ w5.heap.size := by have := hb5.size; omega
          have hownW5 : OwnsN w4.heap.size (some ⟨w4.heap.size, 0, none⟩) 1 [quoteNd] w5 := hownWH.out.below hb5
          have hbfin : Hid (∀ wx, Below w4.heap.size w4 wx → Below w.heap.size w wx) := hid (fun wx hx => hb2H.out.trans ((hb3H.out.mono hz2w).trans ((hb4H.out.mono (by omega)).trans (hx.mono (by omega)))))
          by_cases hN0 : N = []
          · subst hN0
            obtain ⟨rfl, rfl⟩ := h50 rfl
            have hown2' : OwnsN B2 a2 cp2 [quoteNd] w5 := (show OwnsN B2 a2 cp2 [quoteNd] w4 from hown2H.out).below hb45
            have hSm := hid (same_true B2 w4.heap.size a2 (some ⟨w4.heap.size, 0, none⟩) cp2 1 [quoteNd] w5 hown2' hownW5 (by simp))
            have hownWH5 := hid hownW5
            have hb45H := hid hb45
            clear hsW' hb45 hownW5 hown2' hown5 hb5 h50 hD
            go_wp2_with (at_builtin; refine wpList_append_own_none _ (by rfl) _ _ 22 (by rfl) w4.heap.size 36 i0 5 Tryz.underlying22 hi (.slice (some ⟨w4.heap.size, 0, none⟩) 1 1) 1 (ndCells [quoteNd]) (by rfl) hownWH5.out (by rfl) ?_)
            refine hSm.out.mono ?_
            rintro e w6 ⟨rfl, hb6⟩
            have hb6H := hid (hb45H.out.trans (hb6.mono (by omega)))
            clear hb6
            go_wp2
            go_ret
            exact ⟨rfl, hbfin.out _ hb6H.out⟩
          · have hNpos : 0 < N.length := List.length_pos_iff.2 hN0
            obtain ⟨g5, rfl, hg5, hcp5, _⟩ := OwnsN.some hown5 (by rw [List.length_map]; exact hNpos)
            have hnews : Hid (∀ j u, (ndCells (N.map Nd.deep))[j]? = some u → w5.cell? ((⟨g5, 0, none⟩ : Addr).add j) = some u) := hid (fun j u hu => World.ownsRow.cells hown5 (g := g5) rfl j u hu)
            have hlen5 : Hid ((ndCells (N.map Nd.deep)).length = N.length * 5) := hid (by have := hown5.1; rwa [List.length_map] at this)
            have hone : Hid (∀ u ∈ ndCells (N.map Nd.deep), u.oneCell' = true) := hid (by
              intro u hu
              unfold ndCells at hu
              obtain ⟨c, hc, huc⟩ := List.mem_flatten.1 hu
              obtain ⟨x, _, rfl⟩ := List.mem_map.1 hc
              simp [five] at huc; rcases huc with rfl | rfl | rfl | rfl | rfl <;> rfl)
            have hownWH5 := hid hownW5
            have hb45H := hid hb45
            have hbase : w4.heap.size ≤ w5.heap.size := by omega
            clear hsW' hb45 hownW5 hown5 hb5 h50 hD hcp5
            go_wp2_with (at_builtin; refine wpList_append_lies _ (by rfl) _ _ 22 (by rfl) w4.heap.size 36 i0 (.agg #[.int .i64 0, .int .i64 0, .int .i64 0, .string ⟨#[]⟩, .string ⟨#[]⟩]) 5 56 Tryz.underlying22 hi hz0 hz1 hz2 (by rfl) (by omega) (.slice (some ⟨w4.heap.size, 0, none⟩) 1 1) 1 (ndCells [quoteNd]) (by rfl) hownWH5.out ⟨g5, 0, none⟩ N.length cp5 (ndCells (N.map Nd.deep)) (by rfl) hlen5.out hnews.out hone.out hNpos (by unfold maxLen; omega) (by omega) hbase w5.heap.size (by rfl) ?_)
            intro g cap1 w6 hown6 hgrow hat hltg
            have hb46 : Below w4.heap.size w4 w6 := Below.grown hb45H.out hgrow hbase (fun q hq => by
              have : w4.heap.size = q := by simpa [Value.ownBlock] using hq
              omega)
            have hown6' : OwnsN w4.heap.size (some ⟨g, 0, none⟩) cap1 (quoteNd :: N.map Nd.deep) w6 := by
              unfold OwnsN
              rw [show quoteNd :: N.map Nd.deep = [quoteNd] ++ N.map Nd.deep from rfl, List.length_append, List.length_map, show ndCells ([quoteNd] ++ N.map Nd.deep) = ndCells [quoteNd] ++ ndCells (N.map Nd.deep) by simp [ndCells]]
              exact hown6
            have hown2' : OwnsN B2 a2 cp2 (quoteNd :: N.map Nd.deep) w6 := hown2H.out.below hb46
            have hSm := hid (same_true B2 w4.heap.size a2 (some ⟨g, 0, none⟩) cp2 cap1 (quoteNd :: N.map Nd.deep) w6 hown2' hown6' (by rw [List.length_cons, List.length_map]; omega))
            rw [List.length_cons, List.length_map] at hSm
            have hb46H := hid hb46
            have hadd : 1 + N.length = N.length + 1 := by omega
            have hz6 : w4.heap.size ≤ w6.heap.size := hb46.size
            clear hown6 hgrow hat hltg hb46 hown6' hown2'
            rw [hadd]
            go_wp2_with fail
            refine hSm.out.mono ?_
            rintro e w7 ⟨rfl, hb7⟩
            have hb7H := hid (hb46H.out.trans (hb7.mono hz6))
            clear hb7
            go_wp2
            go_ret
            exact ⟨rfl, hbfin.out _ hb7H.out⟩
end Go.Proofs.YtlojgpkajkedeaaGreatDoor
