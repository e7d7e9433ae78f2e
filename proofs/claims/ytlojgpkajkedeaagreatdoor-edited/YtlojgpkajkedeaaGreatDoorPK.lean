import Derived.Test.YtlojgpkajkedeaaGreatDoorPI
import Derived.Test.YtlojgpkajkedeaaGreatDoorQN
/- The blocks of a text: how great they are; a page of a text. -/
namespace Go.Proofs.YtlojgpkajkedeaaGreatDoor
open Go.RowKit
namespace S

theorem fold_le (l : List UInt8) (a : Nat) : l.foldl (fun a b => a * 10 + (b.toNat - 48)) a ≤ (a + 300) * 10 ^ l.length := by
  induction l generalizing a with
  | nil => simp
  | cons b l ih =>
    have h1 := ih (a * 10 + (b.toNat - 48))
    have h2 := b.toNat_lt
    rw [List.foldl_cons, List.length_cons, Nat.pow_succ]
    refine Nat.le_trans h1 ?_
    have h3 : a * 10 + (b.toNat - 48) + 300 ≤ (a + 300) * 10 := by omega
    refine Nat.le_trans (Nat.mul_le_mul_right _ h3) (Nat.le_of_eq ?_)
    rw [Nat.mul_assoc, Nat.mul_comm 10]
theorem number_bound (l : List UInt8) (h : l.length ≤ 6) : -1 ≤ number l ∧ number l ≤ 300000000 := by
  unfold number; split
  · omega
  · have h1 := fold_le l 0
    have h2 : 10 ^ l.length ≤ 10 ^ 6 := Nat.pow_le_pow_right (by decide) h
    have h3 : dec l ≤ (0 + 300) * 10 ^ 6 := Nat.le_trans h1 (Nat.mul_le_mul_left _ h2)
    omega
theorem markerSize_7 (l : List UInt8) : markerSize l ≤ 7 := by
  unfold markerSize
  split
  · omega
  · split
    · omega
    · split <;> omega
theorem item_number (l : List UInt8) : -1 ≤ (item l).number ∧ (item l).number ≤ 300000000 := by
  unfold item; split
  · exact ⟨by decide, by decide⟩
  · have := markerSize_7 (shallow l)
    exact number_bound _ (by rw [List.length_take]; omega)
theorem titleLevel_le (l : List UInt8) : titleLevel l ≤ 6 := by unfold titleLevel; split <;> omega
theorem underline_le (l : List UInt8) : underlineLevel l ≤ 2 := by
  unfold underlineLevel; split
  · omega
  · split <;> omega
theorem fence_info (l : List UInt8) : (fence l).info.length ≤ l.length := by
  have h0 := shallow_le l
  unfold fence; split
  · simp
  · rename_i c t hc
    split
    · have := trimB_le ((c :: t).drop (cnt c (c :: t))) 32
      rw [List.length_drop] at this
      rw [hc] at h0
      show (fenceInfo (c :: t) c).length ≤ _
      unfold fenceInfo; omega
    · simp
theorem codeText_tt (rows : List (List UInt8)) : (codeText rows).length ≤ tt rows := by
  induction rows with
  | nil => simp [codeText]
  | cons x r ih =>
    rw [tt_cons]
    simp only [codeText, List.map_cons, List.flatten_cons, List.length_append, List.length_drop, List.length_singleton] at *
    omega
theorem fencedText_tt (ind : Nat) (rows : List (List UInt8)) : (fencedText ind rows).length ≤ tt rows := by
  induction rows with
  | nil => simp [fencedText]
  | cons x r ih =>
    rw [tt_cons]
    simp only [fencedText, List.map_cons, List.flatten_cons, List.length_append, List.length_drop, List.length_singleton] at *
    omega
end S
/-- Blocks that can be written, and whose kinds are those of blocks. -/
def wellL (m : Nat) (ts : List S.Blk) : Prop := fitL ts ∧ pgL ts ≤ m ∧ ∀ b ∈ ts, 1 ≤ b.kind ∧ b.kind ≤ 7
theorem fitB_put (z : Int) (b : S.Blk) : fitB (b.put z) ↔ fitB b := by cases b; simp only [S.Blk.put, fitB]
theorem pgB_put (z : Int) (b : S.Blk) : pgB (b.put z) = pgB b := by cases b; simp only [S.Blk.put, pgB]
theorem fit_mk (z k n : Int) (i t : List UInt8) (lo : Bool) (ks : List S.Blk) (h0 : -1 ≤ n) (h1 : n ≤ 300000000) (hi : i.length ≤ 300000) (ht : t.length ≤ 300000) (hk : fitL ks) : fitB (.at_ z k n i t lo ks) := by
  simp only [fitB]; exact ⟨by omega, by omega, hi, ht, hk⟩
theorem list_well (sub : List (List UInt8) → List S.Blk × Bool) (hs : ∀ x, S.tt x ≤ 300000 → fitL (sub x).1 ∧ pgL (sub x).1 ≤ 400 * S.tt x) (kind : UInt8) (Z f : Nat) (l : List UInt8) (r : List (List UInt8)) (hok : (S.item l).ok = true) (ht : S.tt (l :: r) ≤ 300000) :
    fitL (S.listFrom sub kind Z f (S.item l) (l :: r)).1 ∧ pgL (S.listFrom sub kind Z f (S.item l) (l :: r)).1 + 280 * min f 1 ≤ 400 * S.tt ((l :: r).take (S.listFrom sub kind Z f (S.item l) (l :: r)).2.2) := by
  induction f generalizing l r with
  | zero => simp [S.listFrom, pgL, fitL]
  | succ f ih =>
    have hi := S.item_tt l r hok
    have hle := S.tt_take_le (l :: r) (S.itemRow (S.item l) (l :: r)).length
    have hw := hs (S.itemRow (S.item l) (l :: r)) (by omega)
    rw [S.listFrom_succ]
    obtain ⟨a, ha⟩ : ∃ a, (S.itemRow (S.item l) (l :: r)).length = a := ⟨_, rfl⟩
    obtain ⟨g, hg⟩ : ∃ g, S.countBlank ((l :: r).drop a) = g := ⟨_, rfl⟩
    rw [ha] at hi ⊢
    rw [hg]
    have hm : min (f + 1) 1 = 1 := by omega
    rw [hm]
    by_cases hn : (S.nextItem kind ((l :: r).drop (a + g))).ok = true
    · rw [if_pos hn]
      cases hd : (l :: r).drop (a + g) with
      | nil => rw [hd] at hn; simp [S.nextItem] at hn
      | cons l2 r2 =>
        rw [hd] at hn
        have hy := S.nextItem_yes kind l2 r2 hn
        have hsp := S.tt_split (l :: r) (a + g)
        rw [hd] at hsp
        have := ih l2 r2 hy.2.2 (by omega)
        rw [hy.1]
        have e := S.tt_take_add (l :: r) (a + g) (S.listFrom sub kind Z f (S.item l2) (l2 :: r2)).2.2
        rw [hd] at e
        have e2 := S.tt_take_mono (l :: r) a (a + g) (by omega)
        dsimp only
        refine ⟨?_, ?_⟩
        · simp only [fitL]
          exact ⟨fit_mk _ _ _ _ _ _ _ (by decide) (by decide) (by simp) (by simp) hw.1, this.1⟩
        · simp only [pgL, pgB, List.length_nil]
          rw [e]; omega
    · rw [if_neg hn]
      dsimp only
      refine ⟨?_, ?_⟩
      · simp only [fitL]
        exact ⟨fit_mk _ _ _ _ _ _ _ (by decide) (by decide) (by simp) (by simp) hw.1, trivial⟩
      · simp only [pgL, pgB, List.length_nil]
        omega
theorem block_well (sub : List (List UInt8) → List S.Blk × Bool) (hs : ∀ x, S.tt x ≤ 300000 → fitL (sub x).1 ∧ pgL (sub x).1 ≤ 400 * S.tt x) (x : List UInt8) (r : List (List UInt8)) (ht : S.tt (x :: r) ≤ 300000) :
    fitB (S.readBlock sub (x :: r)).1 ∧ pgB (S.readBlock sub (x :: r)).1 ≤ 400 * S.tt ((x :: r).take (S.readBlock sub (x :: r)).2) ∧ 1 ≤ (S.readBlock sub (x :: r)).1.kind ∧ (S.readBlock sub (x :: r)).1.kind ≤ 6 := by
  have hz := S.readBlock_size sub x r
  have h0 := S.tt_take_one x r _ hz.1
  have hx : x.length + 1 ≤ 300000 := by rw [S.tt_cons] at ht; omega
  clear hz
  obtain ⟨v, hv⟩ : ∃ v, S.readBlock sub (x :: r) = v := ⟨_, rfl⟩
  rw [hv] at h0 ⊢
  unfold S.readBlock at hv
  dsimp only at hv
  split at hv
  · subst hv
    have h1 := S.codeText_tt ((x :: r).take (S.countDeep 4 (x :: r)))
    have h2 := S.tt_take_le (x :: r) (S.countDeep 4 (x :: r))
    refine ⟨fit_mk _ _ _ _ _ _ _ (by decide) (by decide) (by simp) (by omega) (by simp [fitL]), ?_, show (1 : Int) ≤ 3 by decide, show (3 : Int) ≤ 6 by decide⟩
    show 120 + 6 * 0 + 96 * (S.codeText ((x :: r).take (S.countDeep 4 (x :: r)))).length + 0 ≤ 400 * S.tt ((x :: r).take (S.countDeep 4 (x :: r)))
    have h3 : x.length + 1 ≤ S.tt ((x :: r).take (S.countDeep 4 (x :: r))) := h0
    omega
  split at hv
  · subst hv
    refine ⟨fit_mk _ _ _ _ _ _ _ (by decide) (by decide) (by simp) (by simp) (by simp [fitL]), ?_, show (1 : Int) ≤ 4 by decide, show (4 : Int) ≤ 6 by decide⟩
    have h3 : x.length + 1 ≤ S.tt ((x :: r).take 1) := h0
    show 120 + 6 * 0 + 96 * 0 + 0 ≤ 400 * S.tt ((x :: r).take 1)
    omega
  split at hv
  · subst hv
    have h1 := S.titleContent_le x
    have h2 := S.titleLevel_le x
    refine ⟨fit_mk _ _ _ _ _ _ _ (by omega) (by omega) (by simp) (by omega) (by simp [fitL]), ?_, show (1 : Int) ≤ 2 by decide, show (2 : Int) ≤ 6 by decide⟩
    have h3 : x.length + 1 ≤ S.tt ((x :: r).take 1) := h0
    show 120 + 6 * 0 + 96 * (S.titleContent x).length + 0 ≤ 400 * S.tt ((x :: r).take 1)
    omega
  split at hv
  · subst hv
    have h1 := S.fence_info x
    have h3 := S.fencedText_tt (S.fence x).ind (r.take (S.fencedSize (S.fence x).mark (S.fence x).width r))
    obtain ⟨q, hq⟩ : ∃ q, S.fencedSize (S.fence x).mark (S.fence x).width r = q := ⟨_, rfl⟩
    have h4 : q ≤ r.length := by rw [← hq]; exact S.fencedSize_le _ _ _
    have e : (S.readFenced (S.fence x) (x :: r)) = (.mk 3 0 (S.fence x).info (S.fencedText (S.fence x).ind (r.take q)) false [], min (q + 1 + 1) (r.length + 1)) := by
      unfold S.readFenced; simp only [List.tail_cons, List.length_cons]; rw [hq]
    rw [hq] at h3
    rw [e] at h0 ⊢
    have h5 : S.tt ((x :: r).take (q + 1)) ≤ S.tt ((x :: r).take (min (q + 1 + 1) (r.length + 1))) := S.tt_take_mono _ _ _ (by omega)
    rw [List.take_succ_cons, S.tt_cons] at h5
    have h6 := S.tt_take_le (x :: r) (min (q + 1 + 1) (r.length + 1))
    refine ⟨fit_mk _ _ _ _ _ _ _ (by decide) (by decide) (by omega) (by omega) (by simp [fitL]), ?_, show (1 : Int) ≤ 3 by decide, show (3 : Int) ≤ 6 by decide⟩
    simp only [pgB, pgL]; omega
  split at hv
  · rename_i h5
    subst hv
    have hq := S.quote_tt_lt x r h5
    have h2 := S.tt_take_le (x :: r) (S.quoteRow (x :: r)).length
    have hw := hs (S.quoteRow (x :: r)) (by omega)
    refine ⟨fit_mk _ _ _ _ _ _ _ (by decide) (by decide) (by simp) (by simp) hw.1, ?_, show (1 : Int) ≤ 5 by decide, show (5 : Int) ≤ 6 by decide⟩
    simp only [pgB, List.length_nil]; omega
  split at hv
  · rename_i h6
    subst hv
    rw [S.readList_eq]
    have hl := list_well sub hs (S.item x).kind (x :: r).length (x :: r).length x r h6 ht
    rw [show min (x :: r).length 1 = 1 by simp] at hl
    have hn := S.item_number x
    refine ⟨fit_mk _ _ _ _ _ _ _ (by omega) (by omega) (by simp) (by simp) hl.1, ?_, show (1 : Int) ≤ 6 by decide, show (6 : Int) ≤ 6 by decide⟩
    simp only [pgB, List.length_nil]; omega
  · subst hv
    have hp := S.par_text (x :: r)
    have h2 := S.tt_take_le (x :: r) (S.readParagraph (x :: r)).2
    have hk : (S.readParagraph (x :: r)).1.info = [] ∧ 1 ≤ (S.readParagraph (x :: r)).1.kind ∧ (S.readParagraph (x :: r)).1.kind ≤ 2 ∧ 0 ≤ (S.readParagraph (x :: r)).1.n ∧ (S.readParagraph (x :: r)).1.n ≤ 2 := by
      unfold S.readParagraph
      dsimp only
      split
      · exact ⟨rfl, show (1 : Int) ≤ 1 by decide, show (1 : Int) ≤ 2 by decide, show (0 : Int) ≤ 0 by decide, show (0 : Int) ≤ 2 by decide⟩
      · rename_i l _
        have := S.underline_le l
        split
        · exact ⟨rfl, show (1 : Int) ≤ 2 by decide, show (2 : Int) ≤ 2 by decide, by show (0 : Int) ≤ ((S.underlineLevel l : Nat) : Int); omega, by show ((S.underlineLevel l : Nat) : Int) ≤ 2; omega⟩
        · exact ⟨rfl, show (1 : Int) ≤ 1 by decide, show (1 : Int) ≤ 2 by decide, show (0 : Int) ≤ 0 by decide, show (0 : Int) ≤ 2 by decide⟩
    obtain ⟨b, hb⟩ : ∃ b, (S.readParagraph (x :: r)).1 = b := ⟨_, rfl⟩
    rw [hb] at hp hk ⊢
    have e1 := pgB_eq b
    obtain ⟨z, k, n, i, t, lo, kids⟩ := b
    obtain ⟨hp1, hp2⟩ := hp
    simp only [S.Blk.text, S.Blk.kids, S.Blk.info, S.Blk.kind, S.Blk.n] at hp1 hp2 hk e1
    subst hp2
    obtain ⟨hi0, hk1, hk2, hn1, hn2⟩ := hk
    subst hi0
    refine ⟨fit_mk _ _ _ _ _ _ _ (by omega) (by omega) (by simp) (by omega) (by simp [fitL]), ?_, hk1, by show k ≤ 6; omega⟩
    rw [e1]; simp only [List.length_nil, pgL]; omega
theorem rowFrom_well (sub : List (List UInt8) → List S.Blk × Bool) (hs : ∀ x, S.tt x ≤ 300000 → fitL (sub x).1 ∧ pgL (sub x).1 ≤ 400 * S.tt x) (Z f : Nat) (row : List (List UInt8)) (ht : S.tt row ≤ 300000) : fitL (S.rowFrom sub Z f row).1 ∧ pgL (S.rowFrom sub Z f row).1 ≤ 400 * S.tt row ∧ ∀ b ∈ (S.rowFrom sub Z f row).1, 1 ≤ b.kind ∧ b.kind ≤ 6 := by
  induction f generalizing row with
  | zero => simp [S.rowFrom, pgL, fitL]
  | succ f ih =>
    cases row with
    | nil => rw [S.rowFrom_nil]; simp [pgL, fitL]
    | cons x r =>
      rw [S.rowFrom_step _ _ _ _ (by simp)]
      have h1 := block_well sub hs x r ht
      obtain ⟨z, hz⟩ : ∃ z, (S.readBlock sub (x :: r)).2 = z := ⟨_, rfl⟩
      rw [hz] at h1 ⊢
      have h3 := S.tt_split (x :: r) (z + S.countBlank ((x :: r).drop z))
      have h2 := ih ((x :: r).drop (z + S.countBlank ((x :: r).drop z))) (by omega)
      have h4 := S.tt_take_mono (x :: r) z (z + S.countBlank ((x :: r).drop z)) (by omega)
      dsimp only
      refine ⟨?_, ?_, ?_⟩
      · simp only [fitL]; exact ⟨(fitB_put _ _).2 h1.1, h2.1⟩
      · simp only [pgL, pgB_put]; omega
      · intro b hb
        rcases List.mem_cons.1 hb with rfl | hb
        · rw [S.Blk.put_kind]; exact h1.2.2
        · exact h2.2.2 b hb
theorem readRow_well (d : Nat) (row : List (List UInt8)) (ht : S.tt row ≤ 300000) : fitL (S.readRow d row).1 ∧ pgL (S.readRow d row).1 ≤ 400 * S.tt row ∧ ∀ b ∈ (S.readRow d row).1, 1 ≤ b.kind ∧ b.kind ≤ 6 := by
  induction d generalizing row with
  | zero => simp [S.readRow, pgL, fitL]
  | succ d ih =>
    rw [show S.readRow (d + 1) row = S.rowFrom (S.readRow d) row.length row.length (row.drop (S.countBlank row)) from rfl]
    have h2 := S.tt_split row (S.countBlank row)
    have h1 := rowFrom_well (S.readRow d) (fun x hx => ⟨(ih x hx).1, (ih x hx).2.1⟩) row.length row.length (row.drop (S.countBlank row)) (by omega)
    exact ⟨h1.1, by omega, h1.2.2⟩
theorem blkHt_ne (tight : Bool) (b : S.Blk) (h : 1 ≤ b.kind ∧ b.kind ≤ 6) : blkHt contH tight b ≠ [] := by
  obtain ⟨z, k, n, i, t, lo, kids⟩ := b
  simp only [S.Blk.kind] at h
  rw [blkHt_eq]
  (repeat' split) <;> first | omega | simp
theorem blksHt_ne (tight : Bool) (ts : List S.Blk) (hne : ts ≠ []) (h : ∀ b ∈ ts, 1 ≤ b.kind ∧ b.kind ≤ 6) : blksHt contH tight ts ≠ [] := by
  cases ts with
  | nil => exact absurd rfl hne
  | cons b r =>
    simp only [blksHt]
    intro e
    exact blkHt_ne tight b (h b (by simp)) (List.append_eq_nil_iff.1 e).1
/-- The page of a text. -/
noncomputable def pageOf (l : List UInt8) : List UInt8 := blksHt contH false (S.readRow (l.length + 1) (S.lines l)).1

set_option maxRecDepth 100000 in
set_option maxHeartbeats 4000000 in
theorem wblocks_nil (b : Nat) (ka : Option Addr) (kc : Nat) (tight : Bool) (w : World) :
    Calls Tryz.prog 71 #[.pointer (some ⟨b, 0, none⟩), .slice ka 0 kc, .bool tight] w fun e w' => e = .returned (.tuple #[]) ∧ w' = w := by
  go_enter Tryz.func71, Tryz.ntmps71
  go_wp2
  refine wp_loop_rounds 1 ?_
  rw [rounds_succ]
  go_wp2
  go_end0
  exact ⟨rfl, rfl⟩

set_option maxRecDepth 100000 in
set_option maxHeartbeats 4000000 in
theorem write_any (A : Nat → Prop) (ka : Option Addr) (kn kc : Nat) (ts : List S.Blk) (w : World) (hA : ∀ x, A x → x < w.heap.size) (hrep : Rep w A (.slice ka kn kc) ts) (henv : EnvP w.heap.size w) (hfit : fitL ts) (hpg : pgL ts ≤ 1000000000) (hkd : ∀ b ∈ ts, 1 ≤ b.kind ∧ b.kind ≤ 6) :
    Calls Tryz.prog 55 #[.slice ka kn kc] w fun e w' => e = .returned (.string (S.B (blksHt contH false ts))) ∧ Below w.heap.size w w' := by
  obtain ⟨WP, hWP⟩ : ∃ WP, WP = w.alloc (.cells #[.pointer none, .slice none 0 0] 124) := ⟨_, rfl⟩
  have hP0 : PageF w.heap.size w.heap.size [] WP := by rw [hWP]; exact fresh_page w
  have hx0 : WP.heap[w.heap.size]? = some (.cells #[.pointer none, .slice none 0 0] 124 (0, 0)) := by rw [hWP]; exact alloc_new _ _
  have hbP : Below w.heap.size w WP := by rw [hWP]; exact (Below.refl _ _).alloc (Nat.le_refl _) _
  have hzP : w.heap.size ≤ WP.heap.size := hbP.size
  by_cases hts : ts = []
  · subst hts
    have hkn : kn = 0 := (rep_view hrep).1
    subst hkn
    have hC := hid (wblocks_nil w.heap.size ka kc false WP)
    have hS := hid (pstring_nil w.heap.size WP hx0)
    have hWPH := hid hWP
    have hbPH := hid hbP
    obtain ⟨R, hR⟩ : ∃ R, R = S.B (blksHt contH false []) := ⟨_, rfl⟩
    rw [← hR]
    have hRH : Hid (R = ⟨#[]⟩) := hid (by rw [hR]; rfl)
    clear hWP hx0 hP0 hrep hbP hR hkd hpg hfit hA henv
    go_enter Tryz.func55, Tryz.ntmps55
    go_wp2_with fail
    rw [← hWPH.out]
    refine hC.out.mono ?_
    rintro e w1 ⟨rfl, rfl⟩
    go_wp2_with fail
    refine hS.out.mono ?_
    rintro e w2 ⟨rfl, g2⟩
    have G2 := hid g2
    clear g2
    go_wp2
    go_ret
    exact ⟨by rw [hRH.out]; rfl, hbPH.out.trans (G2.out.mono hzP)⟩
  · have hne := blksHt_ne false ts hts hkd
    have hC := hid (wblocks_any (pgL ts) ts (Nat.le_refl _) w.heap.size w.heap.size A w ka kn kc false [] WP hA hrep hbP (henv.below hbP) hP0 hzP hfit (by simpa using hpg))
    have hneH := hid hne
    have hWPH := hid hWP
    have hbPH := hid hbP
    obtain ⟨R, hR⟩ : ∃ R, R = S.B (blksHt contH false ts) := ⟨_, rfl⟩
    rw [← hR]
    have hRH := hid hR
    clear hWP hx0 hP0 hrep hbP hne hts hR hkd hpg hfit hA henv
    go_enter Tryz.func55, Tryz.ntmps55
    go_wp2_with fail
    rw [← hWPH.out]
    refine hC.out.mono ?_
    rintro e w1 ⟨rfl, g1⟩
    have hS := hid (pstring w.heap.size w.heap.size _ w1 g1.1 (by simpa using hneH.out))
    rw [List.nil_append] at hS
    have G1 := hid g1.2.1
    clear g1
    go_wp2_with fail
    refine hS.out.mono ?_
    rintro e w2 ⟨rfl, g2⟩
    have G2 := hid g2
    clear g2
    go_wp2
    go_ret
    exact ⟨by rw [hRH.out]; rfl, hbPH.out.trans (G1.out.trans G2.out)⟩
end Go.Proofs.YtlojgpkajkedeaaGreatDoor
/- rubric.Page; titles. -/
namespace Go.Proofs.YtlojgpkajkedeaaGreatDoor
open Go.RowKit

theorem EnvP.mono {B B' : Nat} {w : World} (h : EnvP B w) (hB : B ≤ B') : EnvP B' w := by
  obtain ⟨h1, ⟨h2, h3⟩, h4, g, h5, h6⟩ := h
  exact ⟨h1, ⟨by omega, by omega⟩, h4, g, h5, by omega⟩
set_option maxRecDepth 100000 in
set_option maxHeartbeats 4000000 in
theorem page_any (s : ByteArray) (w : World) (hs : s.size ≤ 1500) (henv : EnvP w.heap.size w) :
    Calls Tryz.prog 32 #[.string s] w fun e w' => e = .returned (.tuple #[.string (S.B (pageOf s.data.toList)), .int .i64 0]) ∧ Below w.heap.size w w' := by
  have hR := hid (read_any rowOK_all s w (by omega) henv.1)
  have hwl := readRow_well (s.size + 1) (S.lines s.data.toList) (by have := S.lines_tt s.data.toList; rw [S.length_data] at this; omega)
  have hlt := S.lines_tt s.data.toList
  rw [S.length_data] at hlt
  obtain ⟨R, hRR⟩ : ∃ R, R = S.B (pageOf s.data.toList) := ⟨_, rfl⟩
  rw [← hRR]
  have hRH := hid hRR
  have hWr : Hid (∀ ka kn kc w1, Below w.heap.size w w1 → Rep w1 (fun x => w.heap.size ≤ x ∧ x < w1.heap.size) (.slice ka kn kc) (S.readRow (s.size + 1) (S.lines s.data.toList)).1 → Calls Tryz.prog 55 #[.slice ka kn kc] w1 fun e w' => e = .returned (.string R) ∧ Hid (Below w.heap.size w w')) := hid (fun ka kn kc w1 h1 h2 => by
    have := write_any _ ka kn kc _ w1 (fun x hx => hx.2) h2 ((henv.below h1).mono h1.size) hwl.1 (by omega) hwl.2.2
    refine this.mono ?_
    rintro e w' ⟨rfl, h3⟩
    refine ⟨?_, hid (h1.trans (h3.mono h1.size))⟩
    rw [hRH.out, pageOf, S.length_data])
  have hs2 : ¬ (1500 : Int) < (s.size : Int) := by omega
  clear hwl hlt hRR henv
  go_enter Tryz.func32, Tryz.ntmps32
  go_wp2_with fail
  refine hR.out.mono ?_
  rintro e w1 ⟨v, rfl, h1, h2⟩
  obtain ⟨ka, kn, kc, rfl⟩ := h1.form
  have hW := hid (hWr.out ka kn kc w1 h2 h1)
  clear h1 h2
  go_wp2_with fail
  refine hW.out.mono ?_
  rintro e w2 ⟨rfl, h3⟩
  go_wp2
  go_ret2
  exact ⟨rfl, h3.out⟩
set_option maxHeartbeats 1000000 in
theorem page_long (s : ByteArray) (w : World) (hs : 1500 < s.size) :
    Calls Tryz.prog 32 #[.string s] w fun e w' => e = .returned (.tuple #[.string ⟨#[]⟩, .int .i64 1]) ∧ w' = w := by
  have hs2 : (1500 : Int) < (s.size : Int) := by omega
  go_enter Tryz.func32, Tryz.ntmps32
  go_wp2
  go_ret2
  exact ⟨rfl, rfl⟩

/-- A title. -/
structure Tl where
  level : Int
  text : List UInt8
  line : Int
def three (x : Tl) : List Value := [.int .i64 x.level, .string (S.B x.text), .int .i64 x.line]
def tlCells (l : List Tl) : List Value := (l.map three).flatten
theorem tlCells_snoc (l : List Tl) (x : Tl) : tlCells (l ++ [x]) = tlCells l ++ three x := by simp [tlCells]
def OwnsT (B : Nat) (a : Option Addr) (cp : Nat) (l : List Tl) (w : World) : Prop := w.ownsRow B 71 3 (.slice a l.length cp) l.length (tlCells l)
theorem OwnsT.below {B : Nat} {a : Option Addr} {cp : Nat} {l : List Tl} {w w' : World} (h : OwnsT B a cp l w) (hb : Below w.heap.size w w') : OwnsT B a cp l w' :=
  World.ownsRow.kept h (below_grown hb) (by
    cases h : (Value.slice a l.length cp).ownBlock with
    | none => exact .inl rfl
    | some g => exact .inr (by simp))
def LaidT (B : Nat) (own : Option Nat) (l : List Tl) (w : World) (e : Ending) (w' : World) : Prop := ∃ a cp, e = .returned (.slice a l.length cp) ∧ OwnsT B a cp l w' ∧ w.grownBy w' own ∧ ∀ g, (Value.slice a l.length cp).ownBlock = some g → own = some g ∨ w.heap.size ≤ g
theorem Tryz.infoTitle : (Tryz.prog.info? 71).map (fun i => (i.zero, i.size, i.bytes)) = some (some (.agg #[.int .i64 0, .string ⟨#[]⟩, .int .i64 0]), 3, 32) := by kernel_rfl
mutual
/-- The titles of blocks that begin at a line. -/
noncomputable def titB (z : Int) : S.Blk → List Tl
  | .at_ li k n _ t _ kids => (if k = 2 then [⟨n, ptsPl (contT t), z + li⟩] else []) ++ titL (z + li) kids
noncomputable def titL (z : Int) : List S.Blk → List Tl
  | [] => []
  | b :: r => titB z b ++ titL z r
end
theorem titL_append (z : Int) (a b : List S.Blk) : titL z (a ++ b) = titL z a ++ titL z b := by
  induction a with
  | nil => simp [titL]
  | cons p r ih => simp only [List.cons_append, titL, ih, List.append_assoc]
theorem titL_take (z : Int) (ts : List S.Blk) (k : Nat) (t : S.Blk) (h : ts[k]? = some t) : titL z (ts.take (k + 1)) = titL z (ts.take k) ++ titB z t := by
  rw [List.take_add_one, h, titL_append]; simp [titL]
mutual
theorem titB_le : ∀ (b : S.Blk) (z : Int), (titB z b).length ≤ pgB b
  | .at_ li k n i t lo kids => by
    intro z
    have := titL_le kids (z + li)
    simp only [titB, pgB, List.length_append]
    split
    · simp only [List.length_singleton]; omega
    · simp only [List.length_nil]; omega
theorem titL_le : ∀ (l : List S.Blk) (z : Int), (titL z l).length ≤ pgL l
  | [] => by intro z; simp [titL]
  | b :: r => by
    intro z
    have h1 := titB_le b z
    have h2 := titL_le r z
    simp only [titL, pgL, List.length_append]; omega
end
mutual
/-- Blocks whose lines are not too great. -/
def lnB : S.Blk → Prop
  | .at_ li _ _ _ _ _ kids => 0 ≤ li ∧ li ≤ 300000 ∧ lnL kids
def lnL : List S.Blk → Prop
  | [] => True
  | b :: r => lnB b ∧ lnL r
end
theorem lnL_get (ts : List S.Blk) (h : lnL ts) (i : Nat) (t : S.Blk) (hi : ts[i]? = some t) : lnB t := by
  induction ts generalizing i with
  | nil => simp at hi
  | cons b r ih =>
    simp only [lnL] at h
    cases i with
    | zero => simp at hi; subst hi; exact h.1
    | succ i => exact ih h.2 i (by simpa using hi)
theorem list_ln (sub : List (List UInt8) → List S.Blk × Bool) (hs : ∀ x, S.tt x ≤ 300000 → lnL (sub x).1) (kind : UInt8) (Z f : Nat) (hZ : Z ≤ 300000) (l : List UInt8) (r : List (List UInt8)) (hok : (S.item l).ok = true) (ht : S.tt (l :: r) ≤ 300000) :
    lnL (S.listFrom sub kind Z f (S.item l) (l :: r)).1 := by
  induction f generalizing l r with
  | zero => simp [S.listFrom, lnL]
  | succ f ih =>
    have hi := S.item_tt l r hok
    have hi2 := S.tt_take_le (l :: r) (S.itemRow (S.item l) (l :: r)).length
    have hg := hs (S.itemRow (S.item l) (l :: r)) (by omega)
    rw [S.listFrom_succ]
    obtain ⟨k, hk⟩ : ∃ k, (S.itemRow (S.item l) (l :: r)).length + S.countBlank ((l :: r).drop (S.itemRow (S.item l) (l :: r)).length) = k := ⟨_, rfl⟩
    rw [hk]
    have hz : (0 : Int) ≤ ((Z - (l :: r).length : Nat) : Int) ∧ ((Z - (l :: r).length : Nat) : Int) ≤ 300000 := by omega
    by_cases hn : (S.nextItem kind ((l :: r).drop k)).ok = true
    · rw [if_pos hn]
      cases hdr : (l :: r).drop k with
      | nil => rw [hdr] at hn; simp [S.nextItem] at hn
      | cons l2 r2 =>
        rw [hdr] at hn
        have hy := S.nextItem_yes kind l2 r2 hn
        have hsp := S.tt_split (l :: r) k
        rw [hdr] at hsp
        have := ih l2 r2 hy.2.2 (by omega)
        rw [hy.1]
        simp only [lnL, lnB]
        exact ⟨⟨hz.1, hz.2, hg⟩, this⟩
    · rw [if_neg hn]
      simp only [lnL, lnB]
      exact ⟨⟨hz.1, hz.2, hg⟩, trivial⟩
theorem block_ln (sub : List (List UInt8) → List S.Blk × Bool) (hs : ∀ x, S.tt x ≤ 300000 → lnL (sub x).1) (x : List UInt8) (r : List (List UInt8)) (ht : S.tt (x :: r) ≤ 300000) : lnL (S.readBlock sub (x :: r)).1.kids := by
  have hlen : (x :: r).length ≤ 300000 := by unfold S.tt at ht; omega
  unfold S.readBlock
  dsimp only
  split
  · simp [S.readIndented, S.Blk.kids, lnL]
  split
  · simp [S.Blk.kids, lnL]
  split
  · simp [S.Blk.kids, lnL]
  split
  · simp [S.readFenced, S.Blk.kids, lnL]
  split
  · have h1 := S.quote_tt (x :: r)
    have h2 := S.tt_take_le (x :: r) (S.quoteRow (x :: r)).length
    exact hs _ (by omega)
  split
  · rename_i h6
    rw [S.readList_eq]
    exact list_ln sub hs _ _ _ hlen x r h6 ht
  · rw [(S.par_text (x :: r)).2]; simp [lnL]
theorem lnB_put (z : Int) (b : S.Blk) (h0 : 0 ≤ z) (h1 : z ≤ 300000) (h : lnL b.kids) : lnB (b.put z) := by
  cases b; simp only [S.Blk.put, lnB]; exact ⟨h0, h1, h⟩
theorem rowFrom_ln (sub : List (List UInt8) → List S.Blk × Bool) (hs : ∀ x, S.tt x ≤ 300000 → lnL (sub x).1) (Z f : Nat) (hZ : Z ≤ 300000) (row : List (List UInt8)) (ht : S.tt row ≤ 300000) : lnL (S.rowFrom sub Z f row).1 := by
  induction f generalizing row with
  | zero => simp [S.rowFrom, lnL]
  | succ f ih =>
    cases row with
    | nil => rw [S.rowFrom_nil]; simp [lnL]
    | cons x r =>
      rw [S.rowFrom_step _ _ _ _ (by simp)]
      have h1 := block_ln sub hs x r ht
      have h3 := S.tt_split (x :: r) ((S.readBlock sub (x :: r)).2 + S.countBlank ((x :: r).drop (S.readBlock sub (x :: r)).2))
      have h2 := ih ((x :: r).drop ((S.readBlock sub (x :: r)).2 + S.countBlank ((x :: r).drop (S.readBlock sub (x :: r)).2))) (by omega)
      simp only [lnL]
      exact ⟨lnB_put _ _ (by omega) (by omega) h1, h2⟩
theorem readRow_ln (d : Nat) (row : List (List UInt8)) (ht : S.tt row ≤ 300000) : lnL (S.readRow d row).1 := by
  induction d generalizing row with
  | zero => simp [S.readRow, lnL]
  | succ d ih =>
    rw [show S.readRow (d + 1) row = S.rowFrom (S.readRow d) row.length row.length (row.drop (S.countBlank row)) from rfl]
    have h2 := S.tt_split row (S.countBlank row)
    exact rowFrom_ln (S.readRow d) (fun x hx => ih x hx) _ _ (by unfold S.tt at ht; omega) _ (by omega)
end Go.Proofs.YtlojgpkajkedeaaGreatDoor
