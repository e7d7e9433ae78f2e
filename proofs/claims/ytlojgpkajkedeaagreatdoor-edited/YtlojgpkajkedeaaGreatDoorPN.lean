import Derived.Test.YtlojgpkajkedeaaGreatDoorPK
import Derived.Test.YtlojgpkajkedeaaGreatDoorXM
/- Titles of blocks. -/
namespace Go.Proofs.YtlojgpkajkedeaaGreatDoor
open Go.RowKit

theorem OwnsT.alloc {B : Nat} {a : Option Addr} {cp : Nat} {l : List Tl} {w : World} (h : OwnsT B a cp l w) (o : Obj) : OwnsT B a cp l (w.alloc o) := World.ownsRow.alloc h o
theorem wg_text (c : List UInt8) (h : c.length ≤ 300000) : wgL (contT c) ≤ 1000000000 := by have := contT_wg c; omega

set_option maxRecDepth 100000 in
set_option maxHeartbeats 8000000 in
theorem apTit_any (N : Nat) : ∀ (ts : List S.Blk), pgL ts ≤ N → ∀ (B : Nat) (A : Nat → Prop) (w0 : World) (ka : Option Addr) (kn kc : Nat) (a : Option Addr) (cp : Nat) (l : List Tl) (z : Int) (w : World), (∀ x, A x → x < B) → Rep w0 A (.slice ka kn kc) ts → EnvP B w0 → Below B w0 w → B ≤ w.heap.size → OwnsT B a cp l w → fitL ts → lnL ts → 0 ≤ z → z + 300000 * pgL ts ≤ 1000000000000000 → (l ++ titL z ts).length ≤ 1000000 →
    Calls Tryz.prog 59 #[.slice a l.length cp, .slice ka kn kc, .int .i64 z] w (LaidT B (Value.slice a l.length cp).ownBlock (l ++ titL z ts) w) := by
  induction N using Nat.strongRecOn with
  | _ N ih =>
  intro ts hN B A w0 ka kn kc a cp l z w hA hrep henv hb0 hB hown hfit hln hz0 hz1 hl
  obtain ⟨i0, hi, hi0, hi1, hi2⟩ := info_parts Tryz.infoTitle
  obtain ⟨hkn, hview⟩ := rep_view hrep
  have hlen := pgL_len ts
  have hviewH := hid hview
  have hfitH := hid hfit
  have hlnH := hid hln
  have hb0H := hid hb0
  have henvH := hid henv
  have ihH := hid ih
  have hNH := hid hN
  have hlH := hid hl
  have hownH := hid hown
  have hlts := hid hown.lt
  clear hrep hview hfit hln hb0 henv ih hl hown hN
  subst hkn
  go_enter Tryz.func59, Tryz.ntmps59
  go_wp2
  go_loopw [0, 8, 9, 12] (fun vl _ _ i wr => ∃ (j : Nat) (a' : Option Addr) (cp' n' : Nat), j ≤ ts.length ∧ i = .int .i64 j ∧ vl = .slice a' n' cp' ∧ Hid (n' = (l ++ titL z (ts.take j)).length ∧ OwnsT B a' cp' (l ++ titL z (ts.take j)) wr ∧ w.grownBy wr (Value.slice a l.length cp).ownBlock ∧ ∀ g, (Value.slice a' (l ++ titL z (ts.take j)).length cp').ownBlock = some g → (Value.slice a l.length cp).ownBlock = some g ∨ w.heap.size ≤ g)) (fun _ _ _ i _ => ts.length - (intOf i).toNat)
  case atStart =>
    refine ⟨0, a, cp, l.length, Nat.zero_le _, rfl, rfl, hid ⟨by simp [titL], ?_, World.grownBy.refl _ _, ?_⟩⟩
    · simpa [titL] using hownH.out
    · intro g hg; exact .inl (by simpa [Value.ownBlock, titL] using hg)
  case round =>
    obtain ⟨j, a', cp', n', hj, rfl, rfl, hrel'⟩ := hrel
    obtain ⟨hn', hownr, hgr, hat⟩ := hrel'.out
    clear hrel'
    have hbw : Below B w wr := Below.grown (Below.refl B w) hgr hB (fun q hq => (hlts.out q hq).1)
    by_cases hlt : j < ts.length
    · obtain ⟨t, ht⟩ : ∃ t, ts[j]? = some t := ⟨ts[j], List.getElem?_eq_getElem hlt⟩
      obtain ⟨g, o, la, lz, lc, kv, hka, hg, hrk, c0, c1, c2, c3, c4, c5, c6, c7⟩ := hviewH.out j t ht
      obtain ⟨a2, n2, cp2, rfl⟩ := hrk.form
      have hle3 := pgL_take_le ts (j + 1)
      rw [pgL_take ts j t ht] at hle3
      have hft := fitL_get ts hfitH.out j t ht
      have hlnt := lnL_get ts hlnH.out j t ht
      have hbw0 := hb0H.out.trans hbw
      have hgB := hA g hg
      have hcell : ∀ q, wr.cell? ⟨g, o + j * 8 + q, none⟩ = w0.cell? ⟨g, o + j * 8 + q, none⟩ := fun q => hbw0.cell (p := ⟨g, o + j * 8 + q, none⟩) hgB
      have hsn : l ++ titL z (ts.take (j + 1)) = (l ++ titL z (ts.take j)) ++ titB z t := by rw [titL_take z ts j t ht, List.append_assoc]
      have htot : ((l ++ titL z (ts.take j)) ++ titB z t).length ≤ 1000000 := by
        rw [← hsn]
        have h1 := hlH.out
        have h2 : titL z ts = titL z (ts.take (j + 1)) ++ titL z (ts.drop (j + 1)) := by rw [← titL_append, List.take_append_drop]
        rw [h2] at h1
        simp only [List.length_append] at h1 ⊢
        omega
      obtain ⟨li, k, n, info, text, loose, kids⟩ := t
      simp only [S.Blk.kind, S.Blk.line, S.Blk.n, S.Blk.info, S.Blk.text, S.Blk.loose, S.Blk.kids] at c0 c1 c2 c3 c4 c5 c6 c7 hrk
      simp only [fitB] at hft
      simp only [lnB] at hlnt
      simp only [titB] at htot hsn
      have d0 := (hcell 0).trans c0
      have d1 := (hcell 1).trans c1
      have d2 := (hcell 2).trans c2
      have d3 := (hcell 3).trans c3
      have d4 := (hcell 4).trans c4
      have d5 := (hcell 5).trans c5
      have d6 := (hcell 6).trans c6
      have d7 := (hcell 7).trans c7
      rw [Nat.add_zero] at d0
      have hpk0 := pgB_eq (.at_ li k n info text loose kids)
      simp only [S.Blk.info, S.Blk.text, S.Blk.kids] at hpk0
      have hpk : pgL kids < N := by
        have := hNH.out
        omega
      obtain ⟨L, hL⟩ : ∃ L, l ++ titL z (ts.take j) = L := ⟨_, rfl⟩
      rw [hL] at hn' hownr hat htot hsn
      subst hn'
      have hBr : B ≤ wr.heap.size := Nat.le_trans hB hgr.size
      have hwrap : IntKind.i64.wrap (z + li) = z + li := by rw [IntKind.wrap_i64]; omega
      obtain ⟨X2, hX2⟩ : ∃ X2, X2 = Obj.cells #[.int .i64 k, .int .i64 li, .slice la lz lc, .int .i64 n, .string (S.B info), .string (S.B text), .bool loose, .slice a2 n2 cp2] 110 := ⟨_, rfl⟩
      have hx2 : (wr.alloc X2).heap[wr.heap.size]? = some (.cells #[.int .i64 k, .int .i64 li, .slice la lz lc, .int .i64 n, .string (S.B info), .string (S.B text), .bool loose, .slice a2 n2 cp2] 110 (0, 0)) := by rw [hX2]; exact alloc_new _ _
      have hbX : Below wr.heap.size wr (wr.alloc X2) := (Below.refl _ _).alloc (Nat.le_refl _) _
      -- the rest of a round: the kids' titles behind a list
      have hrest : Hid (∀ (a3 : Option Addr) (cp3 : Nat) (L3 : List Tl) (w3 : World), L3 ++ titL (z + li) kids = l ++ titL z (ts.take (j + 1)) → OwnsT B a3 cp3 L3 w3 → wr.grownBy w3 (Value.slice a' L.length cp').ownBlock → (∀ g', (Value.slice a3 L3.length cp3).ownBlock = some g' → (Value.slice a' L.length cp').ownBlock = some g' ∨ wr.heap.size ≤ g') →
          Calls Tryz.prog 59 #[.slice a3 L3.length cp3, .slice a2 n2 cp2, .int .i64 (z + li)] w3 fun e w4 => ∃ a4 cp4 n4, e = .returned (.slice a4 n4 cp4) ∧ Hid (n4 = (l ++ titL z (ts.take (j + 1))).length ∧ OwnsT B a4 cp4 (l ++ titL z (ts.take (j + 1))) w4 ∧ w.grownBy w4 (Value.slice a l.length cp).ownBlock ∧ ∀ g, (Value.slice a4 (l ++ titL z (ts.take (j + 1))).length cp4).ownBlock = some g → (Value.slice a l.length cp).ownBlock = some g ∨ w.heap.size ≤ g)) := hid (fun a3 cp3 L3 w3 h1 h2 h3 h4 => by
        have hltr := hownr.lt
        have hb3 : Below B w0 w3 := hbw0.trans (Below.grown (Below.refl B wr) h3 hBr (fun q hq => (hltr q hq).1))
        have := ihH.out (pgL kids) hpk kids (Nat.le_refl _) B A w0 a2 n2 cp2 a3 cp3 L3 (z + li) w3 hA hrk henvH.out hb3 (Nat.le_trans hBr h3.size) h2 hft.2.2.2.2 hlnt.2.2 (by omega) (by omega) (by
          rw [h1]
          have h5 := hlH.out
          have h6 : titL z ts = titL z (ts.take (j + 1)) ++ titL z (ts.drop (j + 1)) := by rw [← titL_append, List.take_append_drop]
          rw [h6] at h5
          simp only [List.length_append] at h5 ⊢
          omega)
        refine this.mono ?_
        rintro e w4 ⟨a4, cp4, rfl, g1, g2, g3⟩
        rw [h1] at g1 g3
        refine ⟨a4, cp4, _, rfl, hid ⟨by rw [h1], g1, grown_trans hgr (grown_trans h3 g2 h4) hat, fun g' hg' => ?_⟩⟩
        rcases g3 g' hg' with h | h
        · rcases h4 g' h with h | h
          · exact hat g' h
          · exact .inr (Nat.le_trans hgr.size h)
        · exact .inr (Nat.le_trans (Nat.le_trans hgr.size h3.size) h))
      have hX2H := hid hX2
      by_cases hk : k = 2
      · subst hk
        rw [if_pos rfl] at hsn htot
        obtain ⟨pt, hpt⟩ : ∃ pt, S.B (ptsPl (contT text)) = pt := ⟨_, rfl⟩
        obtain ⟨tl, htl⟩ : ∃ tl : Tl, tl = ⟨n, ptsPl (contT text), z + li⟩ := ⟨_, rfl⟩
        rw [← htl] at hsn htot
        have h3 : Hid (three tl = [.int .i64 n, .string pt, .int .i64 (z + li)]) := hid (by rw [htl, ← hpt]; rfl)
        have hXl : wr.heap.size < (wr.alloc X2).heap.size := by simp
        have hXk : Hid (∀ w1, After (wr.alloc X2) w1 → w1.heap[wr.heap.size]? = some (.cells #[.int .i64 2, .int .i64 li, .slice la lz lc, .int .i64 n, .string (S.B info), .string (S.B text), .bool loose, .slice a2 n2 cp2] 110 (0, 0))) := hid (fun w1 h => (h.block _ hXl).trans hx2)
        have x0 := cell_blk hx2 0 _ rfl
        have x1 := cell_blk hx2 1 _ rfl
        have x3 := cell_blk hx2 3 _ rfl
        have x5 := cell_blk hx2 5 _ rfl
        have hRd : Hid (∀ wx, After (wr.alloc X2) wx → Calls Tryz.prog 80 #[.string (S.B text)] wx fun e w1 => ∃ kf kl, e = .returned (.agg #[.pointer kf, .pointer kl]) ∧ (w1.cell? ⟨wr.heap.size, 3, none⟩ = some (.int .i64 n) ∧ w1.cell? ⟨wr.heap.size, 5, none⟩ = some (.string (S.B text))) ∧ Hid (KRep w1 (Tag w1) kf (contT text) ∧ After (wr.alloc X2) w1)) := hid (fun wx hx => by
          have he : EnvP B wx := henvH.out.below (hbw0.trans ((hbX.trans (hx.mono (by simp))).mono hBr))
          have := within_any (S.B text) wx (by rw [S.size_B]; omega) he.1
          rw [S.data_B] at this
          refine this.mono ?_
          rintro e w1 ⟨kf, kl, rfl, g1, g2⟩
          have h4 : After (wr.alloc X2) w1 := Below.trans hx (g2.mono hx.size)
          exact ⟨kf, kl, rfl, ⟨cell_blk (hXk.out w1 h4) 3 _ rfl, cell_blk (hXk.out w1 h4) 5 _ rfl⟩, hid ⟨g1, h4⟩⟩)
        have hPl : Hid (∀ kf kl w1, KRep w1 (Tag w1) kf (contT text) ∧ After (wr.alloc X2) w1 → Calls Tryz.prog 79 #[.agg #[.pointer kf, .pointer kl]] w1 fun e w2 => e = .returned (.string pt) ∧ (w2.cell? ⟨wr.heap.size, 3, none⟩ = some (.int .i64 n) ∧ w2.cell? ⟨wr.heap.size, 5, none⟩ = some (.string (S.B text))) ∧ wr.heap.size + 1 ≤ w2.heap.size ∧ Hid (After (wr.alloc X2) w2)) := hid (fun kf kl w1 h => by
          refine (plainOf_any (contT text) (Tag w1) kf kl w1 (wg_text text hft.2.2.2.1) h.1).mono ?_
          rintro e w2 ⟨rfl, g2⟩
          have h4 : After (wr.alloc X2) w2 := Below.trans h.2 (g2.mono h.2.size)
          exact ⟨by rw [hpt], ⟨cell_blk (hXk.out w2 h4) 3 _ rfl, cell_blk (hXk.out w2 h4) 5 _ rfl⟩, by have := h4.size; simpa using this, hid h4⟩)
        have hLl : L.length + 1 ≤ 1000000 := by simp only [List.length_append, List.length_singleton] at htot; omega
        have hownX : Hid (∀ w2 ob, After (wr.alloc X2) w2 → (w2.alloc ob).ownsRow B 71 3 (.slice a' L.length cp') L.length (tlCells L)) := hid (fun w2 ob h => ((hownr.alloc X2).below h).alloc ob)
        have hnew : Hid (∀ (w2 : World) j u, (three tl)[j]? = some u → (w2.alloc (.cells #[.int .i64 n, .string pt, .int .i64 (z + li)] 71)).cell? ((⟨w2.heap.size, 0, none⟩ : Addr).add j) = some u) := hid (fun w2 j u hj => World.news_of_block (alloc_new _ _) j u (by rw [h3.out] at hj; exact hj))
        have hone : Hid (∀ u ∈ three tl, u.oneCell' = true) := hid (by
          intro u hu; rw [h3.out] at hu; simp at hu; rcases hu with rfl | rfl | rfl <;> rfl)
        have hltr := hid hownr.lt
        have hmid : Hid (∀ w2 ob w3 g cap1, After (wr.alloc X2) w2 → (w2.alloc ob).grownBy w3 (Value.slice a' L.length cp').ownBlock → w3.ownsRow B 71 3 (.slice (some ⟨g, 0, none⟩) (L.length + 1) cap1) (L.length + 1) (tlCells L ++ three tl) → ((Value.slice a' L.length cp').ownBlock = some g ∨ g = w2.heap.size + 1) →
            (w3.cell? ⟨wr.heap.size, 3, none⟩ = some (.int .i64 n) ∧ w3.cell? ⟨wr.heap.size, 5, none⟩ = some (.string (S.B text))) ∧ Hid (w3.heap[wr.heap.size]? = some (.cells #[.int .i64 2, .int .i64 li, .slice la lz lc, .int .i64 n, .string (S.B info), .string (S.B text), .bool loose, .slice a2 n2 cp2] 110 (0, 0)) ∧ OwnsT B (some ⟨g, 0, none⟩) cap1 (L ++ [tl]) w3 ∧ wr.grownBy w3 (Value.slice a' L.length cp').ownBlock ∧ ∀ g', (Value.slice (some ⟨g, 0, none⟩) (L ++ [tl]).length cap1).ownBlock = some g' → (Value.slice a' L.length cp').ownBlock = some g' ∨ wr.heap.size ≤ g')) := hid (fun w2 ob w3 g cap1 h1 h2 h4 h5 => by
          have hsz := h1.size
          have hs2 : (w2.alloc ob).heap.size = w2.heap.size + 1 := by simp
          have hk3 : w3.heap[wr.heap.size]? = _ := (h2.block wr.heap.size (by rw [hs2]; omega) (fun e => by have := (hltr.out _ e.symm).2; omega)).trans ((Below.heap_alloc _ _ _ (by omega)).trans (hXk.out w2 h1))
          refine ⟨⟨cell_blk hk3 3 _ rfl, cell_blk hk3 5 _ rfl⟩, hid ⟨hk3, by unfold OwnsT; rw [tlCells_snoc, List.length_append]; exact h4, ?_, ?_⟩⟩
          · exact grown_trans (grown_trans (grown_below (hbX.trans (h1.mono (by simp))) _) (World.grownBy_alloc _ _ _) (fun g h => .inl h)) h2 (fun g h => .inl h)
          · intro g' hg'
            have : g = g' := by simpa [Value.ownBlock] using hg'
            subst this
            rcases h5 with h | h
            · exact .inl h
            · exact .inr (by omega))
        clear c0 c1 c2 c3 c4 c5 c6 c7 hcell hbw0 hrk hft hX2 hpk hx2 hownr hgr hat htot hbX hL hbw hpt htl
        have hsnH := hid hsn
        clear hsn
        subst hka
        go_upto_region 6 with fail
        rw [← hX2H.out]
        go_region_held3 (fun w' => w'.cell? ⟨wr.heap.size, 3, none⟩ = some (.int .i64 n) ∧ w'.cell? ⟨wr.heap.size, 5, none⟩ = some (.string (S.B text)))
          (first | exact ⟨x3, x5⟩ | exact ⟨y3, y5⟩ | exact ⟨v3, v5⟩ | exact ⟨z3, z5⟩ | exact ⟨cell_al z3 hz2 _, cell_al z5 hz2 _⟩)
          (first
            | (go_at_call 80; refine (hRd.out _ (by first | exact after_drew | exact Below.refl _ _)).mono ?_; rintro e w1 ⟨kf, kl, rfl, ⟨y3, y5⟩, hK1⟩)
            | (go_at_call 79; refine (hPl.out _ _ _ hK1.out).mono ?_; rintro e w2 ⟨rfl, ⟨z3, z5⟩, hz2, hA2⟩)
            | (refine step_append_lies _ (by rfl) _ _ 65 (by rfl) B 71 i0 (.agg #[.int .i64 0, .string ⟨#[]⟩, .int .i64 0]) 3 32 Tryz.underlying65 hi hi0 hi1 hi2 (by rfl) (by omega) (.slice a' L.length cp') L.length (tlCells L) (by rfl) (hownX.out _ _ hA2.out) ⟨w2.heap.size, 0, none⟩ 1 1 (three tl) (by rfl) (by rfl) (hnew.out _) hone.out (by omega) (by unfold maxLen; omega) (by omega) (by simp; omega) (w2.heap.size + 1) (by simp) ?_; intro g3 cap3 w3 hown3 hgrow3 hat3 hltg3; obtain ⟨⟨v3, v5⟩, hM3⟩ := hmid.out w2 _ w3 g3 cap3 hA2.out hgrow3 hown3 hat3))
        all_goals
          have hx3 := hM3.out.1
          have v7 := cell_blk hx3 7 _ rfl
          have hC := hrest.out (some ⟨g3, 0, none⟩) cap3 (L ++ [tl]) w3 (by rw [hsnH.out, List.append_assoc]) hM3.out.2.1 hM3.out.2.2.1 hM3.out.2.2.2
          rw [show (L ++ [tl]).length = L.length + 1 by simp] at hC
          have hCH := hid hC
          clear hC hx3 hown3 hgrow3 hat3 hltg3 hrest hRd hPl hmid hownX hnew hone
          go_wp2_with fail
          refine hCH.out.mono ?_
          rintro e w4 ⟨a4, cp4, n4, rfl, hR4⟩
          go_wp2
          go_roundw
          case rel => exact ⟨j + 1, a4, cp4, n4, by omega, by go_num, rfl, hR4⟩
          case measure => simp [intOf]; omega
      · rw [if_neg hk, List.nil_append] at hsn
        have hkb : (k == 2) = false := by rw [beq_eq_false_iff_ne]; exact hk
        have x0 := cell_blk hx2 0 _ rfl
        have hC := hid (hrest.out a' cp' L (wr.alloc X2) hsn.symm (hownr.alloc X2) (grown_below hbX _) (fun g' h => .inl h))
        clear c0 c1 c2 c3 c4 c5 c6 c7 hcell hbw0 hrk hft hX2 hpk hx2 hownr hgr hat hsn htot hbX hrest hk hL hbw x0
        subst hka
        go_wp2_with fail
        rw [← hX2H.out]
        refine hC.out.mono ?_
        rintro e w4 ⟨a4, cp4, n4, rfl, hR4⟩
        go_wp2
        go_roundw
        case rel => exact ⟨j + 1, a4, cp4, n4, by omega, by go_num, rfl, hR4⟩
        case measure => simp [intOf]; omega
    · have hje : j = ts.length := by omega
      subst hje
      rw [List.take_length] at hn' hownr hat
      have hfin : Hid (LaidT B (Value.slice a l.length cp).ownBlock (l ++ titL z ts) w (.returned (.slice a' n' cp')) wr) := hid ⟨a', cp', by rw [hn'], hownr, hgr, hat⟩
      clear hn' hownr hgr hat hbw
      go_wp2
      go_ret
      exact hfin.out
/-- The titles of a text. -/
noncomputable def titlesOf (l : List UInt8) : List Tl := titL 0 (S.readRow (l.length + 1) (S.lines l)).1

set_option maxRecDepth 100000 in
set_option maxHeartbeats 4000000 in
theorem titles_any (s : ByteArray) (w : World) (hs : s.size ≤ 1500) (henv : EnvP w.heap.size w) (hcnt : (titlesOf s.data.toList).length ≤ 1000000) :
    Calls Tryz.prog 39 #[.string s] w fun e w' => ∃ B a cp, e = .returned (.tuple #[.slice a (titlesOf s.data.toList).length cp, .int .i64 0]) ∧ w.heap.size ≤ B ∧ OwnsT B a cp (titlesOf s.data.toList) w' ∧ Below w.heap.size w w' := by
  have hR := hid (read_any rowOK_all s w (by omega) henv.1)
  have hlt := S.lines_tt s.data.toList
  rw [S.length_data] at hlt
  have hwl := readRow_well (s.size + 1) (S.lines s.data.toList) (by omega)
  have hln := readRow_ln (s.size + 1) (S.lines s.data.toList) (by omega)
  obtain ⟨R, hRR⟩ : ∃ R, R = titlesOf s.data.toList := ⟨_, rfl⟩
  rw [← hRR] at hcnt ⊢
  have hRE : titL 0 (S.readRow (s.size + 1) (S.lines s.data.toList)).1 = R := by rw [hRR, titlesOf, S.length_data]
  have hWr : Hid (∀ ka kn kc w1, Below w.heap.size w w1 → Rep w1 (fun x => w.heap.size ≤ x ∧ x < w1.heap.size) (.slice ka kn kc) (S.readRow (s.size + 1) (S.lines s.data.toList)).1 → Calls Tryz.prog 59 #[.slice none 0 0, .slice ka kn kc, .int .i64 0] w1 fun e w' => ∃ a cp, e = .returned (.slice a R.length cp) ∧ Hid (OwnsT w1.heap.size a cp R w' ∧ w.heap.size ≤ w1.heap.size ∧ Below w.heap.size w w')) := hid (fun ka kn kc w1 h1 h2 => by
    have := apTit_any (pgL (S.readRow (s.size + 1) (S.lines s.data.toList)).1) _ (Nat.le_refl _) w1.heap.size _ w1 ka kn kc none 0 [] 0 w1 (fun x hx => hx.2) h2 ((henv.below h1).mono h1.size) (Below.refl _ _) (Nat.le_refl _) (World.ownsRow_nil _ _ _ _) hwl.1 hln (by omega) (by have := hwl.2.1; omega) (by rw [List.nil_append, hRE]; exact hcnt)
    rw [List.nil_append, hRE] at this
    refine this.mono ?_
    rintro e w' ⟨a, cp, rfl, g1, g2, _⟩
    have hb3 : Below w1.heap.size w1 w' := Below.grown (Below.refl _ _) g2 (Nat.le_refl _) (fun g hg => by simp [Value.ownBlock] at hg)
    exact ⟨a, cp, rfl, hid ⟨g1, h1.size, h1.trans (hb3.mono h1.size)⟩⟩)
  have hs2 : ¬ (1500 : Int) < (s.size : Int) := by omega
  clear hwl hlt hRR henv hln hRE hcnt
  go_enter Tryz.func39, Tryz.ntmps39
  go_wp2_with fail
  refine hR.out.mono ?_
  rintro e w1 ⟨v, rfl, h1, h2⟩
  obtain ⟨ka, kn, kc, rfl⟩ := h1.form
  have hW := hid (hWr.out ka kn kc w1 h2 h1)
  clear h1 h2
  go_wp2_with fail
  refine hW.out.mono ?_
  rintro e w2 ⟨a, cp, rfl, h3⟩
  go_wp2
  go_ret2
  exact ⟨w1.heap.size, a, cp, rfl, h3.out.2.1, h3.out.1, h3.out.2.2⟩
end Go.Proofs.YtlojgpkajkedeaaGreatDoor
/- The document's example of a page. -/
namespace Go.Proofs.YtlojgpkajkedeaaGreatDoor
open Go.RowKit

def cex : List UInt8 := [97, 32, 42, 98, 42]
def pex : List UInt8 := [35, 32, 97, 32, 42, 98, 42]
def qex : List UInt8 := [10, 62, 32, 35, 32, 97, 32, 42, 98, 42]
theorem pex_row : (S.readRow (pex.length + 1) (S.lines pex)).1 = [.mk 2 1 [] cex false []] := by kernel_rfl
theorem qex_row : (S.readRow (qex.length + 1) (S.lines qex)).1 = [.at_ 1 5 0 [] [] false [.mk 2 1 [] cex false []]] := by kernel_rfl
theorem itoa_one : Lib.itoa 1 = [49] := by
  unfold Lib.itoa
  rw [if_neg (by decide)]
  show Lib.decDigits 1 = _
  rw [Lib.decDigits, dif_pos (by decide)]
  rfl
theorem pex_page : pageOf pex = [60, 104, 49, 62, 97, 32, 60, 101, 109, 62, 98, 60, 47, 101, 109, 62, 60, 47, 104, 49, 62, 10] := by
  unfold pageOf
  rw [pex_row]
  simp only [blksHt, List.append_nil]
  rw [blkHt_eq, if_neg (by decide), if_pos rfl, itoa_one]
  unfold contH
  rw [cont_fin cex 10 (by kernel_rfl)]
  kernel_rfl
theorem qex_titles : titlesOf qex = [⟨1, [97, 32, 98], 1⟩] := by
  unfold titlesOf
  rw [qex_row]
  simp only [titL, titB]
  rw [cont_fin cex 10 (by kernel_rfl)]
  kernel_rfl

set_option maxRecDepth 100000 in
set_option maxHeartbeats 4000000 in
theorem paging_any (w : World) (henv : EnvP w.heap.size w) :
    Calls Tryz.prog 31 #[] w fun e w' => e = .returned (.bool true) ∧ Below w.heap.size w w' := by
  have hP := page_any ⟨#[35, 32, 97, 32, 42, 98, 42]⟩ w (by decide) henv
  rw [show (⟨#[35, 32, 97, 32, 42, 98, 42]⟩ : ByteArray).data.toList = pex from rfl, pex_page] at hP
  have hT : Hid (∀ w1, Below w.heap.size w w1 → Calls Tryz.prog 39 #[.string ⟨#[10, 62, 32, 35, 32, 97, 32, 42, 98, 42]⟩] w1 fun e w' => ∃ g cp, e = .returned (.tuple #[.slice (some ⟨g, 0, none⟩) 1 cp, .int .i64 0]) ∧ (w'.cell? ⟨g, 0, none⟩ = some (.int .i64 1) ∧ w'.cell? ⟨g, 1, none⟩ = some (.string ⟨#[97, 32, 98]⟩) ∧ w'.cell? ⟨g, 2, none⟩ = some (.int .i64 1)) ∧ 1 ≤ cp ∧ Hid (Below w.heap.size w w')) := hid (fun w1 h1 => by
    have := titles_any ⟨#[10, 62, 32, 35, 32, 97, 32, 42, 98, 42]⟩ w1 (by decide) ((henv.below h1).mono h1.size)
    rw [show (⟨#[10, 62, 32, 35, 32, 97, 32, 42, 98, 42]⟩ : ByteArray).data.toList = qex from rfl, qex_titles] at this
    refine (this (by decide)).mono ?_
    rintro e w' ⟨B, a, cp, rfl, h2, h3, h4⟩
    rcases h3.2 with ⟨_, hz⟩ | ⟨g, cap, cur, hv, hg, hh, hc1, hc2, hc3, ht⟩
    · simp at hz
    · injection hv with e1 e2 e3
      subst e1 e3
      have hcc : ∀ i u, (tlCells [⟨1, [97, 32, 98], 1⟩])[i]? = some u → w'.cell? ⟨g, i, none⟩ = some u := fun i u hu => by
        have := h3.cells (g := g) rfl i u hu
        have ha : (⟨g, 0, none⟩ : Addr).add i = ⟨g, i, none⟩ := by unfold Addr.add; split <;> simp_all
        rw [ha] at this; exact this
      exact ⟨g, cp, rfl, ⟨hcc 0 _ rfl, hcc 1 _ rfl, hcc 2 _ rfl⟩, hc1, hid (h1.trans (h4.mono h1.size))⟩)
  have hpl : (S.B [60, 104, 49, 62, 97, 32, 60, 101, 109, 62, 98, 60, 47, 101, 109, 62, 60, 47, 104, 49, 62, 10]).toList = [60, 104, 49, 62, 97, 32, 60, 101, 109, 62, 98, 60, 47, 101, 109, 62, 60, 47, 104, 49, 62, 10] := by rw [ByteArray.toList_eq, S.data_B]
  have hPH := hid hP
  clear hP henv
  go_enter Tryz.func31, Tryz.ntmps31
  go_wp2_with fail
  refine hPH.out.mono ?_
  rintro e w1 ⟨rfl, h1⟩
  have hTT := hid (hT.out w1 h1)
  clear h1
  go_wp2_with fail
  refine hTT.out.mono ?_
  rintro e w2 ⟨g, cp, rfl, ⟨c0, c1, c2⟩, hcp, h2⟩
  go_wp2
  go_ret
  exact ⟨by rfl, h2.out⟩
end Go.Proofs.YtlojgpkajkedeaaGreatDoor
