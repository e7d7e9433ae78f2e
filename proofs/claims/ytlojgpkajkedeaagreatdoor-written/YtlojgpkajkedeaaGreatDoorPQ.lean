import Derived.Test.YtlojgpkajkedeaaGreatDoorPU
import Derived.Test.YtlojgpkajkedeaaGreatDoorPK
import Derived.Test.YtlojgpkajkedeaaGreatDoorQN
import Derived.Test.YtlojgpkajkedeaaGreatDoorPV
import Derived.Test.YtlojgpkajkedeaaGreatDoorPN
/- Parts as trees of nodes. -/
namespace Go.Proofs.YtlojgpkajkedeaaGreatDoor
open Go.RowKit

theorem trsNds_append (d : Int) (a b : List Tr) : trsNds d (a ++ b) = trsNds d a ++ trsNds d b := by
  induction a with
  | nil => rfl
  | cons x r ih => simp only [List.cons_append, trsNds, ih, List.append_assoc]
theorem trsHt_append (f : Bool) (a b : List Tr) : trsHt f (a ++ b) = trsHt f a ++ trsHt f b := by
  induction a with
  | nil => rfl
  | cons x r ih => simp only [List.cons_append, trsHt, ih, List.append_assoc]
mutual
def ofPt : Pt → Tr
  | .mk k i t kids _ _ _ => .mk k 0 (S.B i) (S.B t) (ofPts kids)
def ofPts : List Pt → List Tr
  | [] => []
  | p :: r => ofPt p :: ofPts r
end
mutual
theorem ofPt_nds : ∀ (p : Pt) (d : Nat), ptNds d p = trNds d (ofPt p)
  | .mk k i t kids _ _ _ => by
    intro d
    have := ofPts_nds kids (d + 1)
    simp only [ptNds, ofPt, trNds]
    rw [this, show ((d + 1 : Nat) : Int) = (d : Int) + 1 from rfl]
theorem ofPts_nds : ∀ (l : List Pt) (d : Nat), ptsNds d l = trsNds d (ofPts l)
  | [] => by intro d; simp only [ptsNds, ofPts, trsNds]
  | p :: r => by intro d; simp only [ptsNds, ofPts, trsNds]; rw [ofPt_nds p d, ofPts_nds r d]
end
mutual
/-- Parts of the kinds of parts; texts, breaks and codes have none within them. -/
def okP : Pt → Prop
  | .mk k _ _ kids _ _ _ => 8 ≤ k ∧ k ≤ 15 ∧ (k ≤ 11 → kids = []) ∧ okPs kids
def okPs : List Pt → Prop
  | [] => True
  | p :: r => okP p ∧ okPs r
end
mutual
theorem ofPt_pl : ∀ (p : Pt) (d : Int), okP p → plNs (trNds d (ofPt p)) = ptPl p
  | .mk k i t kids _ _ _ => by
    intro d h
    simp only [okP] at h
    have ih := ofPts_pl kids (d + 1) h.2.2.2
    simp only [ofPt, trNds, plNs_cons, ih]
    show plK k (S.B t) ++ _ = _
    unfold plK
    simp only [ptPl]
    by_cases h1 : k = 8 ∨ k = 11
    · rw [if_pos h1, if_pos h1, S.data_B, h.2.2.1 (by omega)]; simp [ptsPl]
    · rw [if_neg h1, if_neg h1]
      by_cases h2 : k = 9 ∨ k = 10
      · rw [if_pos h2, if_pos h2, h.2.2.1 (by omega)]; simp [ptsPl]
      · rw [if_neg h2, if_neg h2, List.nil_append]
theorem ofPts_pl : ∀ (l : List Pt) (d : Int), okPs l → plNs (trsNds d (ofPts l)) = ptsPl l
  | [] => by intro d _; simp only [ofPts, trsNds, ptsPl]; rfl
  | p :: r => by
    intro d h
    simp only [okPs] at h
    simp only [ofPts, trsNds, ptsPl, plNs_append]; rw [ofPt_pl p d h.1, ofPts_pl r d h.2]
end
mutual
theorem ofPt_ht : ∀ (p : Pt) (f : Bool), okP p → trHt f (ofPt p) = ptHt p
  | .mk k i t kids _ _ _ => by
    intro f h
    simp only [okP] at h
    have ih := ofPts_ht kids false h.2.2.2
    have ih2 := ofPts_pl kids 0 h.2.2.2
    have ht : ∀ x : ByteArray, tiT k x f = false := fun x => by
      have h6 : ¬ k = 6 := by omega
      have h7 : ¬ k = 7 := by omega
      simp [tiT, h6, h7]
    simp only [ofPt, trHt, ptHt]
    rw [ht, ih, ih2]
    have hk : k = 8 ∨ k = 9 ∨ k = 10 ∨ k = 11 ∨ k = 12 ∨ k = 13 ∨ k = 14 ∨ k = 15 := by omega
    rcases hk with rfl | rfl | rfl | rfl | rfl | rfl | rfl | rfl
    · rw [h.2.2.1 (by omega)]; simp [opT, clT, ptsHt, S.data_B]
    · rw [h.2.2.1 (by omega)]; simp [opT, clT, ptsHt]
    · rw [h.2.2.1 (by omega)]; simp [opT, clT, ptsHt]
    · rw [h.2.2.1 (by omega)]; simp [opT, clT, ptsHt, S.data_B]
    · simp [opT, clT, S.data_B]
    · simp [S.data_B]
    · simp [opT, clT]
    · simp [opT, clT]
theorem ofPts_ht : ∀ (l : List Pt) (f : Bool), okPs l → trsHt f (ofPts l) = ptsHt l
  | [] => by intro f _; simp only [ofPts, trsHt, ptsHt]
  | p :: r => by
    intro f h
    simp only [okPs] at h
    simp only [ofPts, trsHt, ptsHt]; rw [ofPt_ht p f h.1, ofPts_ht r f h.2]
end
mutual
theorem ofPt_nm : ∀ p : Pt, nmT (ofPt p)
  | .mk k i t kids _ _ _ => by
    have := ofPts_nm kids
    simp only [ofPt, nmT]
    exact ⟨fun _ => by decide, by decide, by decide, this⟩
theorem ofPts_nm : ∀ l : List Pt, nmL (ofPts l)
  | [] => by simp only [ofPts, nmL]
  | p :: r => by simp only [ofPts, nmL]; exact ⟨ofPt_nm p, ofPts_nm r⟩
end
theorem okPs_cons (p : Pt) (r : List Pt) : okPs (p :: r) ↔ okP p ∧ okPs r := by simp only [okPs]
theorem okPs_nil : okPs [] := by simp only [okPs]
theorem okPs_append (a b : List Pt) : okPs (a ++ b) ↔ okPs a ∧ okPs b := by
  induction a with
  | nil => simp [okPs]
  | cons p r ih => simp only [List.cons_append, okPs_cons, ih, and_assoc]
theorem okPs_one (p : Pt) : okPs [p] ↔ okP p := by simp [okPs]
theorem okP_withText (p : Pt) (t : List UInt8) : okP (p.withText t) ↔ okP p := by
  cases p with
  | mk k i t0 kids z a b => show okP (.mk k i t kids z a b) ↔ _; simp only [okP]
theorem ok_join (f : Nat) (l : List Pt) (h : okPs l) : okPs (joinF f l) := by
  induction f generalizing l with
  | zero => exact okPs_nil
  | succ f ih =>
    cases l with
    | nil => exact okPs_nil
    | cons p r =>
      rw [okPs_cons] at h
      simp only [joinF]
      split
      · split
        · exact ih r h.2
        · cases r with
          | nil => exact (okPs_one p).2 h.1
          | cons q r' =>
            have h2 := h.2
            rw [okPs_cons] at h2
            dsimp only
            split
            · exact ih _ ((okPs_cons _ _).2 ⟨(okP_withText _ _).2 h2.1, h2.2⟩)
            · exact (okPs_cons _ _).2 ⟨h.1, ih _ h.2⟩
      · exact (okPs_cons _ _).2 ⟨h.1, ih r h.2⟩
theorem ok_close (f : Nat) (L : List Pt) (s : Pt) (h : okPs (L ++ [s])) : okPs ((closeF f L s).1 ++ [(closeF f L s).2]) := by
  induction f generalizing L s with
  | zero => exact h
  | succ f ih =>
    simp only [closeF]
    split
    · cases ho : lastO s L with
      | none => exact h
      | some v =>
        obtain ⟨l1, x, m⟩ := v
        dsimp only
        refine ih _ _ ?_
        obtain ⟨h1, h2⟩ := lastO_cut s L l1 x m ho
        subst h1
        simp only [okPs_append, okPs_cons] at h
        simp only [okPs_append, okPs_cons]
        refine ⟨⟨h.1.1, (okP_withText _ _).2 h.1.2.1, ?_, okPs_nil⟩, (okP_withText _ _).2 h.2.1, okPs_nil⟩
        have hj : okPs (joinT m) := ok_join _ _ h.1.2.2
        unfold wrapPt
        simp only [okP]
        refine ⟨by split <;> decide, by split <;> decide, ?_, hj⟩
        intro e; exfalso; revert e; split <;> decide
    · exact h
theorem ok_pairF (L l : List Pt) (h : okPs (L ++ l)) : okPs (pairF L l) := by
  induction l generalizing L with
  | nil => simpa [pairF] using h
  | cons s r ih =>
    simp only [pairF]
    refine ih _ ?_
    rw [okPs_append, okPs_cons] at h
    rw [okPs_append]
    exact ⟨ok_close _ _ _ ((okPs_append _ _).2 ⟨h.1, (okPs_one s).2 h.2.1⟩), h.2.2⟩
theorem ok_settle (l : List Pt) (h : okPs l) : okPs (settleT l) := by
  unfold settleT joinT
  exact ok_join _ _ (ok_pairF [] l h)
theorem ok_plain (k : Int) (i t : List UInt8) (z : Nat) (a b : Bool) (h1 : 8 ≤ k) (h2 : k ≤ 15) : okP (.mk k i t [] z a b) := by
  simp only [okP]; exact ⟨h1, h2, fun _ => trivial, okPs_nil⟩
theorem ok_text (t : List UInt8) : okP (textPt t) := ok_plain _ _ _ _ _ _ (by decide) (by decide)
theorem ok_skip (ct : ByteArray) (f k : Nat) : okPs (skipPs ct f k) := by
  unfold skipPs
  split
  · exact (okPs_one _).2 (ok_text _)
  · exact okPs_nil
/-- What every turn keeps. -/
def FitO (s : St) : Prop := okPs s.ps
theorem FitO.skip {s : St} (h : FitO s) (ct : ByteArray) (n : Nat) : FitO (s.skip ct n) := (okPs_append _ _).2 ⟨h, ok_skip ct s.f s.k⟩
theorem FitO.text {s : St} (h : FitO s) (n : Nat) : FitO (s.text n) := h
theorem FitO.lay {s : St} (h : FitO s) (ct : ByteArray) (p : Pt) (n : Nat) (hp : okP p) : FitO (s.lay ct p n) := (okPs_append _ _).2 ⟨(okPs_append _ _).2 ⟨h, ok_skip ct s.f s.k⟩, (okPs_one p).2 hp⟩
theorem FitO.open {s : St} (h : FitO s) (ct : ByteArray) (t : List UInt8) (im : Bool) : FitO (s.open ct t im) := FitO.lay h ct (textPt t) t.length (ok_text t)
theorem okPs_take (l : List Pt) (j : Nat) (h : okPs l) : okPs (l.take j) := by
  rw [← List.take_append_drop j l, okPs_append] at h; exact h.1
theorem okPs_drop (l : List Pt) (j : Nat) (h : okPs l) : okPs (l.drop j) := by
  rw [← List.take_append_drop j l, okPs_append] at h; exact h.2
theorem FitO.bracket {s : St} (h : FitO s) (ct : ByteArray) : FitO (s.bracket ct).2 := by
  unfold St.bracket
  split
  · unfold St.close
    split
    · exact h
    · rename_i o _
      split
      · refine (okPs_append _ _).2 ⟨okPs_take _ _ h, (okPs_one _).2 ?_⟩
        have h5 := ok_settle (s.ps.drop (o.j + 1) ++ skipPs ct s.f s.k) ((okPs_append _ _).2 ⟨okPs_drop _ _ h, ok_skip ct s.f s.k⟩)
        unfold closePt
        simp only [okP]
        refine ⟨by split <;> decide, by split <;> decide, ?_, h5⟩
        intro e; exfalso; revert e; split <;> decide
      · exact h
  · split
    · exact h.open ct _ _
    · split
      · exact h.open ct _ _
      · exact h
theorem FitO.step {s : St} (h : FitO s) (ct : ByteArray) (hk : s.k < ct.size) : FitO (step ct s) := by
  rw [step_at ct s hk]
  unfold stepB
  split
  · split
    · exact h.lay ct _ _ (ok_plain _ _ _ _ _ _ (by decide) (by decide))
    · split
      · exact (h.skip ct 1).text 1
      · exact h.text 1
  · split
    · split
      · exact h.lay ct _ _ (ok_plain _ _ _ _ _ _ (by decide) (by decide))
      · exact h.text _
    · split
      · split
        · split
          · exact h.lay ct _ _ (ok_plain _ _ _ _ _ _ (by decide) (by decide))
          · exact h.lay ct _ _ (ok_plain _ _ _ _ _ _ (by decide) (by decide))
        · exact h.text _
      · split
        · exact h.lay ct _ _ (ok_plain _ _ _ _ _ _ (by decide) (by decide))
        · split
          · split
            · refine h.lay ct _ _ ?_
              unfold linkPt
              simp only [okP]
              exact ⟨by decide, by decide, fun e => absurd e (by decide), (okPs_one _).2 (ok_text _)⟩
            · exact h.text 1
          · split
            · exact h.lay ct _ _ (ok_plain _ _ _ _ _ _ (by decide) (by decide))
            · split
              · split
                · exact h.bracket ct
                · exact (h.bracket ct).text 1
              · exact h.text 1
theorem ends_fitO (ct : ByteArray) (s : St) (r : List Pt) (h : Ends ct s r) (hf : FitO s) : okPs r := by
  induction h with
  | done s h => exact hf.skip ct 0
  | go s r h hr ih => exact ih (hf.step ct h)
theorem contT_ok (c : List UInt8) : okPs (contT c) := by
  by_cases hx : ∃ r, Ends (S.B c) start0 r
  · obtain ⟨r, h⟩ := hx
    rw [contT_eq c r h]
    exact ok_settle r (ends_fitO _ _ _ h okPs_nil)
  · unfold contT; rw [dif_neg hx]; exact okPs_nil
end Go.Proofs.YtlojgpkajkedeaaGreatDoor
/- Nodes, as the statement writes them. -/
namespace Go.Proofs.YtlojgpkajkedeaaGreatDoor
open Go.RowKit

theorem cnT_pos (t : Tr) : 1 ≤ cnT t := by cases t; simp only [cnT]; omega
theorem cnL_append (a b : List Tr) : cnL (a ++ b) = cnL a + cnL b := by
  induction a with
  | nil => simp [cnL]
  | cons x r ih => simp only [List.cons_append, cnL, ih]; omega
theorem nmL_get (ts : List Tr) (h : nmL ts) (j : Nat) (t : Tr) (hj : ts[j]? = some t) : nmT t := by
  induction ts generalizing j with
  | nil => simp at hj
  | cons x r ih =>
    simp only [nmL] at h
    cases j with
    | zero => simp at hj; subst hj; exact h.1
    | succ j => exact ih h.2 j (by simpa using hj)
theorem split_at (ts : List Tr) (j : Nat) (t : Tr) (h : ts[j]? = some t) : ts = ts.take j ++ (t :: ts.drop (j + 1)) := by
  obtain ⟨h1, h2⟩ := List.getElem?_eq_some_iff.1 h
  rw [← h2, List.getElem_cons_drop, List.take_append_drop]
theorem head_le (d : Int) (ts : List Tr) (rest : List Nd) (h : ∀ y, rest.head? = some y → y.depth < d) (y : Nd) (hy : (trsNds d ts ++ rest).head? = some y) : y.depth ≤ d := by
  cases ts with
  | nil => have := h y hy; omega
  | cons x r =>
    cases x
    simp only [trsNds, trNds, List.cons_append, List.head?_cons, Option.some.injEq] at hy
    subst hy; exact Int.le_refl _

set_option maxRecDepth 100000 in
set_option maxHeartbeats 8000000 in
theorem nodes_any (N : Nat) : ∀ ts, cnL ts ≤ N → NodesOK ts := by
  induction N using Nat.strongRecOn with
  | _ N ih =>
  intro ts hN l rest a cp p d tight w hrow hp hple hrest hl hd0 hd1 hB hnm
  have hlenE := congrArg List.length hp
  rw [List.length_drop, List.length_append, trsNds_len] at hlenE
  have hpH := hid hp
  have hrowH := hid hrow
  have hrestH := hid hrest
  have hBH := hid hB
  have hnmH := hid hnm
  have ihH := hid ih
  have hNH := hid hN
  have hd1H := hid hd1
  clear hp hrow hrest hB hnm ih hN hd1
  go_enter Tryz.func33, Tryz.ntmps33
  go_wp2
  go_loopw [1, 10, 11, 12] (fun at' s' _ _ wr => ∃ (j m : Nat) (T : ByteArray), j ≤ ts.length ∧ at' = .int .i64 m ∧ s' = .string T ∧ m ≤ l.length ∧ T.size ≤ 10000000 ∧ Hid (m = p + cnL (ts.take j) ∧ T = S.B (trsHt tight (ts.take j)) ∧ Below w.heap.size w wr)) (fun at' _ _ _ _ => l.length - (intOf at').toNat)
  case atStart => exact ⟨0, p, ⟨#[]⟩, Nat.zero_le _, rfl, rfl, hple, by decide, hid ⟨by simp [cnL], rfl, Below.refl _ _⟩⟩
  case round =>
    obtain ⟨j, m, T, hj, rfl, rfl, hml, hTz, hR⟩ := hrel
    obtain ⟨hm, hT, hbw⟩ := hR.out
    clear hR
    by_cases hlt : j < ts.length
    · obtain ⟨t, ht⟩ : ∃ t, ts[j]? = some t := ⟨ts[j], List.getElem?_eq_getElem hlt⟩
      have hsp := split_at ts j t ht
      have hcn : cnL ts = cnL (ts.take j) + (cnT t + cnL (ts.drop (j + 1))) := by
        have := congrArg cnL hsp
        rw [cnL_append] at this
        simpa only [cnL] using this
      have hdr : l.drop m = trNds d t ++ (trsNds d (ts.drop (j + 1)) ++ rest) := by
        rw [hm, ← List.drop_drop, hpH.out]
        have e1 : trsNds d ts = trsNds d (ts.take j) ++ (trNds d t ++ trsNds d (ts.drop (j + 1))) := by
          have := congrArg (trsNds d) hsp
          rw [trsNds_append] at this
          simpa only [trsNds] using this
        rw [e1, List.append_assoc, List.drop_left' (trsNds_len _ _), List.append_assoc]
      have hBt : trsHt tight ts = trsHt tight (ts.take j) ++ (trHt tight t ++ trsHt tight (ts.drop (j + 1))) := by
        have := congrArg (trsHt tight) hsp
        rw [trsHt_append] at this
        simpa only [trsHt] using this
      have hBl := hBH.out
      rw [hBt] at hBl
      simp only [List.length_append] at hBl
      have htk : ts.take (j + 1) = ts.take j ++ [t] := by rw [List.take_add_one, ht]; rfl
      have hs1 : trsHt tight (ts.take (j + 1)) = trsHt tight (ts.take j) ++ trHt tight t := by rw [htk, trsHt_append]; simp [trsHt]
      have hc1 : cnL (ts.take (j + 1)) = cnL (ts.take j) + cnT t := by rw [htk, cnL_append]; simp [cnL]
      have hnt := nmL_get ts hnmH.out j t ht
      have hcp := cnT_pos t
      obtain ⟨k, n, i, tx, kids⟩ := t
      have hct : cnT (.mk k n i tx kids) = 1 + cnL kids := rfl
      have hNo := hid (node_any k n i tx kids (ihH.out (cnL kids) (by have := hNH.out; omega) kids (Nat.le_refl _)) l (trsNds d (ts.drop (j + 1)) ++ rest) a cp m d tight wr (hrowH.out.below hbw) hdr (head_le d _ rest hrestH.out) hl hd0 (by have := hd1H.out; omega) (by omega) hnt)
      have hx : l[m]? = some ⟨d, k, n, i, tx⟩ := by
        have := congrArg (fun z => z[0]?) hdr
        simpa [List.getElem?_drop, trNds] using this
      have hml2 : m < l.length := (List.getElem?_eq_some_iff.1 hx).1
      obtain ⟨g, rfl, hg, hc⟩ := (hrowH.out.below hbw) m _ hx
      have c0 : wr.cell? ⟨g, m * 5, none⟩ = some (.int .i64 d) := hc 0 _ rfl
      have hI0 : (0 : Int) ≤ (m : Int) := by omega
      have hI1 : (m : Int) < (l.length : Int) := by omega
      obtain ⟨X, hX⟩ : ∃ X, S.B (trHt tight (.mk k n i tx kids)) = X := ⟨_, rfl⟩
      have hXz : X.size ≤ 10000000 := by rw [← hX, S.size_B]; omega
      obtain ⟨m2, hm2⟩ : ∃ m2, m + cnT (.mk k n i tx kids) = m2 := ⟨_, rfl⟩
      have hm2l : m2 ≤ l.length := by omega
      have hm2g : m < m2 := by omega
      have hTX : (T ++ X).size ≤ 10000000 := by rw [hT, ← hX, B_app, S.size_B, S.data_B, List.length_append]; omega
      have hfin : Hid (∀ w2, Below wr.heap.size wr w2 → m2 = p + cnL (ts.take (j + 1)) ∧ T ++ X = S.B (trsHt tight (ts.take (j + 1))) ∧ Below w.heap.size w w2) := hid (fun w2 h2 => ⟨by omega, by rw [hT, ← hX, B_app, S.data_B, hs1], hbw.trans (h2.mono hbw.size)⟩)
      have hCH : Hid (Calls Tryz.prog 56 #[.slice (some ⟨g, 0, none⟩) l.length cp, .int .i64 m, .bool tight] wr fun e w' => e = .returned (.tuple #[.string X, .int .i64 m2]) ∧ Below wr.heap.size wr w') := hid (by
        have := hNo.out
        rw [hX, hm2] at this; exact this)
      clear hsp hcn hdr hBt hBl htk hs1 hc1 hnt hct hNo hx hc hX hm2 hT hm hbw
      go_wp2_with fail
      refine hCH.out.mono ?_
      rintro e w2 ⟨rfl, h2⟩
      have hF := hid (hfin.out w2 h2)
      clear h2
      go_wp2
      go_roundw
      case rel => exact ⟨j + 1, m2, T ++ X, by omega, rfl, rfl, hm2l, hTX, hF⟩
      case measure => simp [intOf]; omega
    · have hje : j = ts.length := by omega
      subst hje
      rw [List.take_length] at hm hT
      have hfin : Hid (T = S.B (trsHt tight ts) ∧ Below w.heap.size w wr ∧ (p : Int) + (cnL ts : Int) = (m : Int)) := hid ⟨hT, hbw, by omega⟩
      cases hrs : rest with
      | nil =>
        have hml3 : m = l.length := by rw [hrs] at hlenE; simp at hlenE; omega
        have hI2 : ¬ (m : Int) < (l.length : Int) := by omega
        have hI3 : decide ((m : Int) < (l.length : Int)) = false := decide_eq_false hI2
        clear hm hml3 hT hbw
        go_wp2
        go_ret2
        exact ⟨by rw [← hfin.out.1, hfin.out.2.2]; rfl, hfin.out.2.1⟩
      | cons y ys =>
        have hyl : l[m]? = some y := by
          have e1 : l.drop m = y :: ys := by
            rw [hm, ← List.drop_drop, hpH.out, hrs, List.drop_left' (trsNds_len _ _)]
          have := congrArg (fun z => z[0]?) e1
          simpa [List.getElem?_drop] using this
        obtain ⟨g, rfl, hg, hc⟩ := (hrowH.out.below hbw) m y hyl
        have hyd : y.depth < d := hrestH.out y (by rw [hrs]; rfl)
        have hml3 := (List.getElem?_eq_some_iff.1 hyl).1
        obtain ⟨yd, yk, yn, yi, yt⟩ := y
        have c0 : wr.cell? ⟨g, m * 5, none⟩ = some (.int .i64 yd) := hc 0 _ rfl
        have hyd' : yd < d := hyd
        have hI0 : (0 : Int) ≤ (m : Int) := by omega
        have hI1 : (m : Int) < (l.length : Int) := by omega
        have hI4 : ¬ yd = d := by omega
        have hI5 : (yd == d) = false := by rw [beq_eq_false_iff_ne]; exact hI4
        clear hm hyl hc hyd hT hbw
        go_wp2
        go_ret2
        exact ⟨by rw [← hfin.out.1, show ((p + cnL ts : Nat) : Int) = (m : Int) from hfin.out.2.2]; rfl, hfin.out.2.1⟩
end Go.Proofs.YtlojgpkajkedeaaGreatDoor
/- Blocks as trees of nodes. -/
namespace Go.Proofs.YtlojgpkajkedeaaGreatDoor
open Go.RowKit

mutual
noncomputable def ofBlk : S.Blk → Tr
  | .at_ _ k n info text loose kids => .mk k n (S.B info) (textOf k (S.B text) loose) ((if k = 1 ∨ k = 2 then ofPts (contT text) else []) ++ ofBlks kids)
noncomputable def ofBlks : List S.Blk → List Tr
  | [] => []
  | b :: r => ofBlk b :: ofBlks r
end
mutual
theorem ofBlk_nds : ∀ (b : S.Blk) (d : Nat), flatB contN d b = trNds d (ofBlk b)
  | .at_ _ k n info text loose kids => by
    intro d
    have ih := ofBlks_nds kids (d + 1)
    simp only [flatB, ofBlk, trNds, trsNds_append]
    rw [ih, show ((d + 1 : Nat) : Int) = (d : Int) + 1 from rfl]
    by_cases h : k = 1 ∨ k = 2
    · rw [if_pos h, if_pos h]; unfold contN; rw [ofPts_nds]; rfl
    · rw [if_neg h, if_neg h]; simp only [trsNds]
theorem ofBlks_nds : ∀ (l : List S.Blk) (d : Nat), flatL contN d l = trsNds d (ofBlks l)
  | [] => by intro d; simp only [flatL, ofBlks, trsNds]
  | b :: r => by intro d; simp only [flatL, ofBlks, trsNds]; rw [ofBlk_nds b d, ofBlks_nds r d]
end
mutual
/-- Blocks as they are read. -/
def okB : S.Blk → Prop
  | .at_ _ k n info _ _ kids => 1 ≤ k ∧ k ≤ 6 ∧ (k ≤ 4 → kids = []) ∧ (k = 2 → 0 ≤ n) ∧ -1 ≤ n ∧ n ≤ 300000000 ∧ (k = 3 → info.head? ≠ some 32) ∧ (k ≤ 5 → okBL kids) ∧ (k = 6 → okIL kids)
def okBL : List S.Blk → Prop
  | [] => True
  | b :: r => okB b ∧ okBL r
def okIL : List S.Blk → Prop
  | [] => True
  | b :: r => okI b ∧ okIL r
def okI : S.Blk → Prop
  | .at_ _ k n _ _ _ kids => k = 7 ∧ n = 0 ∧ okBL kids
end
theorem word_nil : S.word [] = [] := rfl
theorem word_cons (c : UInt8) (l : List UInt8) : S.word (c :: l) = if c = 32 then [] else c :: S.word l := by
  unfold S.word Lib.cut
  have hg := Lib.index_ge l [32]
  by_cases h : c = 32
  · subst h
    have e : Lib.index (32 :: l) [32] = 0 := by unfold Lib.index; rw [if_pos (by simp)]
    rw [e, if_pos rfl]; simp
  · rw [if_neg h]
    have e : Lib.index (c :: l) [32] = if Lib.index l [32] == -1 then -1 else Lib.index l [32] + 1 := by
      conv => lhs; unfold Lib.index
      rw [if_neg (by simp; exact fun e => h e.symm)]
    rw [e]
    by_cases h2 : Lib.index l [32] = -1
    · rw [h2]; simp
    · have h3 : (Lib.index l [32] == -1) = false := by rw [beq_eq_false_iff_ne]; exact h2
      rw [h3]
      simp only [Bool.false_eq_true, if_false]
      rw [if_pos (by omega), if_pos (by omega)]
      have h4 : (Lib.index l [32] + 1).toNat = (Lib.index l [32]).toNat + 1 := by omega
      simp only [h4, List.take_succ_cons]
theorem word_tw (l : List UInt8) : S.word l = l.takeWhile (fun c => c != 32) := by
  induction l with
  | nil => rfl
  | cons c l ih =>
    rw [word_cons, List.takeWhile_cons, ih]
    by_cases h : c = 32
    · subst h; simp
    · rw [if_neg h]; simp [h]
theorem itoa_nat (n : Int) (h : 0 ≤ n) : Lib.itoa n = Lib.decDigits n.toNat := by unfold Lib.itoa; rw [if_neg (by omega)]
theorem cont_ht (f : Bool) (t : List UInt8) : trsHt f (ofPts (contT t)) = contH t := ofPts_ht _ f (contT_ok t)
mutual
theorem ofBlk_ht : ∀ (b : S.Blk) (f : Bool), okB b → trHt f (ofBlk b) = blkHt contH f b
  | .at_ _ k n info text loose kids => by
    intro f h
    simp only [okB] at h
    obtain ⟨h1, h2, h3, h4, h5, h6, h7, h8, h9⟩ := h
    have hk : k = 1 ∨ k = 2 ∨ k = 3 ∨ k = 4 ∨ k = 5 ∨ k = 6 := by omega
    simp only [ofBlk, trHt, blkHt, trsHt_append]
    rcases hk with rfl | rfl | rfl | rfl | rfl | rfl
    · rw [h3 (by decide)]
      cases f <;> simp [ofBlks, trsHt, opT, clT, cont_ht]
    · rw [h3 (by decide)]
      simp [ofBlks, trsHt, opT, clT, cont_ht, itoa_nat n (h4 rfl)]
    · rw [h3 (by decide)]
      have e : (textOf 3 (S.B text) loose) = S.B text := rfl
      rw [e, word_tw]
      cases info with
      | nil => simp [ofBlks, trsHt, opT, clT, S.data_B]
      | cons c r =>
        have hc : c ≠ 32 := fun e => h7 rfl (by rw [e]; rfl)
        simp [ofBlks, trsHt, opT, clT, S.data_B, hc]
    · rw [h3 (by decide)]
      simp [ofBlks, trsHt, opT, clT]
    · have ih := ofBlks_ht kids false (h8 (by decide))
      have e : tiT 5 (textOf 5 (S.B text) loose) f = false := rfl
      rw [e, ih]
      simp [opT, clT, trsHt]
    · have ih := ofItems_ht kids (!loose) (h9 rfl)
      have e : tiT 6 (textOf 6 (S.B text) loose) f = !loose := by cases loose <;> rfl
      rw [e, ih]
      have ho : opT 6 n (S.B info) (textOf 6 (S.B text) loose) f = [60] ++ listN n ++ listO n ++ [62, 10] := by
        unfold listN listO
        simp only [opT]
        rw [if_neg (by decide), if_neg (by decide), if_neg (by decide), if_neg (by decide), if_neg (by decide), if_pos (by decide)]
        by_cases h0 : 0 ≤ n ∧ n ≠ 1
        · rw [if_pos h0, if_pos h0, if_pos h0.1, itoa_nat n h0.1]; simp
        · rw [if_neg h0, if_neg h0]
          by_cases h01 : 0 ≤ n
          · rw [if_pos h01, if_pos h01]; simp
          · rw [if_neg h01, if_neg h01]; simp
      have hc : clT 6 n (textOf 6 (S.B text) loose) f = [60, 47] ++ listN n ++ [62, 10] := by
        unfold listN
        simp only [clT]
        rw [if_neg (by decide), if_neg (by decide), if_neg (by decide), if_neg (by decide), if_pos (by decide)]
        by_cases h01 : 0 ≤ n
        · rw [if_pos h01, if_pos h01]; simp
        · rw [if_neg h01, if_neg h01]; simp
      rw [ho, hc]
      simp [trsHt]
theorem ofBlks_ht : ∀ (l : List S.Blk) (f : Bool), okBL l → trsHt f (ofBlks l) = blksHt contH f l
  | [] => by intro f _; simp only [ofBlks, trsHt, blksHt]
  | b :: r => by
    intro f h
    simp only [okBL] at h
    simp only [ofBlks, trsHt, blksHt]; rw [ofBlk_ht b f h.1, ofBlks_ht r f h.2]
theorem ofItems_ht : ∀ (l : List S.Blk) (f : Bool), okIL l → trsHt f (ofBlks l) = itemsHt contH f l
  | [] => by intro f _; simp only [ofBlks, trsHt, itemsHt]
  | b :: r => by
    intro f h
    simp only [okIL] at h
    simp only [ofBlks, trsHt, itemsHt]; rw [ofItem_ht b f h.1, ofItems_ht r f h.2]
theorem ofItem_ht : ∀ (b : S.Blk) (f : Bool), okI b → trHt f (ofBlk b) = itemHt contH f b
  | .at_ _ k n info text loose kids => by
    intro f h
    simp only [okI] at h
    obtain ⟨rfl, rfl, h3⟩ := h
    have ih := ofBlks_ht kids f h3
    simp only [ofBlk, trHt, itemHt, trsHt_append]
    have e : tiT 7 (textOf 7 (S.B text) loose) f = f := by cases f <;> rfl
    rw [e, ih]
    simp [opT, clT, trsHt]
end
theorem nmL_append (a b : List Tr) : nmL (a ++ b) ↔ nmL a ∧ nmL b := by
  induction a with
  | nil => simp [nmL]
  | cons p r ih => simp only [List.cons_append, nmL, ih, and_assoc]
mutual
theorem ofBlk_nm : ∀ b : S.Blk, okB b → nmT (ofBlk b)
  | .at_ _ k n info text loose kids => by
    intro h
    simp only [okB] at h
    obtain ⟨h1, h2, h3, h4, h5, h6, h7, h8, h9⟩ := h
    simp only [ofBlk, nmT]
    refine ⟨h4, by omega, by omega, (nmL_append _ _).2 ⟨?_, ?_⟩⟩
    · split
      · exact ofPts_nm _
      · simp only [nmL]
    · by_cases h : k = 6
      · exact ofItems_nm kids (h9 h)
      · exact ofBlks_nm kids (h8 (by omega))
theorem ofBlks_nm : ∀ l : List S.Blk, okBL l → nmL (ofBlks l)
  | [] => by intro _; simp only [ofBlks, nmL]
  | b :: r => by intro h; simp only [okBL] at h; simp only [ofBlks, nmL]; exact ⟨ofBlk_nm b h.1, ofBlks_nm r h.2⟩
theorem ofItems_nm : ∀ l : List S.Blk, okIL l → nmL (ofBlks l)
  | [] => by intro _; simp only [ofBlks, nmL]
  | b :: r => by intro h; simp only [okIL] at h; simp only [ofBlks, nmL]; exact ⟨ofItem_nm b h.1, ofItems_nm r h.2⟩
theorem ofItem_nm : ∀ b : S.Blk, okI b → nmT (ofBlk b)
  | .at_ _ k n info text loose kids => by
    intro h
    simp only [okI] at h
    obtain ⟨rfl, rfl, h3⟩ := h
    simp only [ofBlk, nmT]
    refine ⟨fun _ => by decide, by decide, by decide, (nmL_append _ _).2 ⟨?_, ofBlks_nm kids h3⟩⟩
    rw [if_neg (by decide)]; simp only [nmL]
end
/-- The blocks of a text are such. -/
theorem list_ok (sub : List (List UInt8) → List S.Blk × Bool) (hs : ∀ x, okBL (sub x).1) (kind : UInt8) (Z f : Nat) (m : S.Mark) (row : List (List UInt8)) : okIL (S.listFrom sub kind Z f m row).1 := by
  induction f generalizing m row with
  | zero => simp [S.listFrom, okIL]
  | succ f ih =>
    rw [S.listFrom_succ]
    split
    · simp only [okIL, okI]
      exact ⟨⟨trivial, trivial, hs _⟩, ih _ _⟩
    · simp only [okIL, okI]
      exact ⟨⟨trivial, trivial, hs _⟩, trivial⟩
theorem dropW_head (l : List UInt8) : (l.dropWhile (· == 32)).head? ≠ some 32 := by
  induction l with
  | nil => simp
  | cons c l ih =>
    rw [List.dropWhile_cons]
    split
    · exact ih
    · rename_i h; simpa using h
theorem fence_head (l : List UInt8) : (S.fence l).info.head? ≠ some 32 := by
  unfold S.fence; split
  · simp
  · split
    · exact dropW_head _
    · simp
theorem block_ok (sub : List (List UInt8) → List S.Blk × Bool) (hs : ∀ x, okBL (sub x).1) (x : List UInt8) (r : List (List UInt8)) : okB (S.readBlock sub (x :: r)).1 := by
  have hpar : okB (S.readParagraph (x :: r)).1 := by
    unfold S.readParagraph
    dsimp only
    split
    · simp [okB, okBL]
    · rename_i l _
      have := S.underline_le l
      split
      · simp [okB, okBL]; omega
      · simp [okB, okBL]
  unfold S.readBlock
  dsimp only
  split
  · simp [S.readIndented, okB, okBL]
  split
  · simp [okB, okBL]
  split
  · have := S.titleLevel_le x
    simp [okB, okBL]; omega
  split
  · have := fence_head x
    simp [S.readFenced, okB, okBL, this]
  split
  · have := hs (S.quoteRow (x :: r))
    simp [okB, this]
  split
  · have h1 := list_ok sub hs (S.item x).kind (x :: r).length (x :: r).length (S.item x) (x :: r)
    have h2 := S.item_number x
    rw [S.readList_eq]
    simp only [okB]
    exact ⟨by decide, by decide, fun e => absurd e (by decide), fun e => absurd e (by decide), h2.1, h2.2, fun e => absurd e (by decide), fun e => absurd e (by decide), fun _ => h1⟩
  · exact hpar
theorem okB_put (z : Int) (b : S.Blk) : okB (b.put z) ↔ okB b := by cases b; simp only [S.Blk.put, okB]
theorem rowFrom_ok (sub : List (List UInt8) → List S.Blk × Bool) (hs : ∀ x, okBL (sub x).1) (Z f : Nat) (row : List (List UInt8)) : okBL (S.rowFrom sub Z f row).1 := by
  induction f generalizing row with
  | zero => simp [S.rowFrom, okBL]
  | succ f ih =>
    cases row with
    | nil => rw [S.rowFrom_nil]; simp [okBL]
    | cons x r =>
      rw [S.rowFrom_step _ _ _ _ (by simp)]
      simp only [okBL]
      exact ⟨(okB_put _ _).2 (block_ok sub hs x r), ih _⟩
theorem readRow_ok (d : Nat) (row : List (List UInt8)) : okBL (S.readRow d row).1 := by
  induction d generalizing row with
  | zero => simp [S.readRow, okBL]
  | succ d ih =>
    rw [show S.readRow (d + 1) row = S.rowFrom (S.readRow d) row.length row.length (row.drop (S.countBlank row)) from rfl]
    exact rowFrom_ok (S.readRow d) (fun x => ih x) _ _ _
/-- The tree of a text. -/
noncomputable def treeOf (l : List UInt8) : List Tr := ofBlks (S.readRow (l.length + 1) (S.lines l)).1
theorem treeOf_nds (l : List UInt8) : nodesOf l = trsNds 0 (treeOf l) := ofBlks_nds _ 0
theorem treeOf_ht (l : List UInt8) : trsHt false (treeOf l) = pageOf l := ofBlks_ht _ false (readRow_ok _ _)
theorem treeOf_nm (l : List UInt8) : nmL (treeOf l) := ofBlks_nm _ (readRow_ok _ _)
theorem pageOf_len (l : List UInt8) (h : l.length ≤ 1500) : (pageOf l).length ≤ 2000000 := by
  have h1 := S.lines_tt l
  have h2 := readRow_well (l.length + 1) (S.lines l) (by omega)
  have h3 := blksHt_le false (S.readRow (l.length + 1) (S.lines l)).1 h2.1
  unfold pageOf; omega
end Go.Proofs.YtlojgpkajkedeaaGreatDoor
/- Written: the walk. -/
namespace Go.Proofs.YtlojgpkajkedeaaGreatDoor
open Go.RowKit

theorem nrow_of {B : Nat} {a : Option Addr} {cp : Nat} {l : List Nd} {w : World} (h : OwnsN B a cp l w) : NRow w a l := by
  intro i x hi
  have hpos : 0 < l.length := by have := (List.getElem?_eq_some_iff.1 hi).1; omega
  obtain ⟨g, rfl, _, _, hc⟩ := h.some hpos
  have hc0 := hc i 0 x (.int .i64 x.depth) hi (by omega) rfl
  refine ⟨g, rfl, World.block_lt_of_cell? _ _ hc0, fun j u hu => ?_⟩
  have hj : j < 5 := by
    have := (List.getElem?_eq_some_iff.1 hu).1
    simpa [five] using this
  have := hc i j x u hi hj hu
  rwa [Nat.mul_comm] at this

set_option maxRecDepth 100000 in
theorem tree_long (s : ByteArray) (w : World) (hs : 1500 < s.size) :
    Calls Tryz.prog 14 #[.string s] w fun e w' => e = .returned (.tuple #[.slice none 0 0, .int .i64 1]) ∧ w' = w := by
  have hs2 : (1500 : Int) < (s.size : Int) := by omega
  go_enter Tryz.func14, Tryz.ntmps14
  go_wp2
  go_ret2
  exact ⟨rfl, rfl⟩

theorem treeOf_cn (l : List UInt8) : cnL (treeOf l) = (nodesOf l).length := by rw [treeOf_nds, trsNds_len]

set_option maxRecDepth 100000 in
set_option maxHeartbeats 4000000 in
theorem written_any (s : ByteArray) (w : World) (henv : EnvP w.heap.size w) :
    Calls Tryz.prog 11 #[.string s] w fun e w' => e = .returned (.bool true) ∧ Below w.heap.size w w' := by
  have hP := hid (paging_any w henv)
  have henvH := hid henv
  clear henv
  by_cases hs : 1500 < s.size
  · have hT : Hid (∀ w1, Calls Tryz.prog 14 #[.string s] w1 fun e w' => e = .returned (.tuple #[.slice none 0 0, .int .i64 1]) ∧ w' = w1) := hid (fun w1 => tree_long s w1 hs)
    have hG : Hid (∀ w1, Calls Tryz.prog 32 #[.string s] w1 fun e w' => e = .returned (.tuple #[.string ⟨#[]⟩, .int .i64 1]) ∧ w' = w1) := hid (fun w1 => page_long s w1 hs)
    clear hs henvH
    go_enter Tryz.func11, Tryz.ntmps11
    go_wp2_with fail
    refine hP.out.mono ?_
    rintro e w1 ⟨rfl, hb1⟩
    have hb1H := hid hb1
    clear hb1
    go_wp2_with fail
    refine (hT.out w1).mono ?_
    rintro e w2 ⟨rfl, rfl⟩
    go_wp2_with fail
    refine (hG.out _).mono ?_
    rintro e w3 ⟨rfl, rfl⟩
    go_wp2
    go_ret
    exact ⟨by rfl, hb1H.out⟩
  · have hs2 : s.size ≤ 1500 := by omega
    have hln := nodesOf_len s.data.toList
    rw [S.length_data] at hln
    have hpl := pageOf_len s.data.toList (by rw [S.length_data]; exact hs2)
    obtain ⟨N, hN⟩ : ∃ N, (nodesOf s.data.toList).length = N := ⟨_, rfl⟩
    obtain ⟨P, hPg⟩ : ∃ P, S.B (pageOf s.data.toList) = P := ⟨_, rfl⟩
    have hNz : N ≤ 1000000 := by omega
    have hT : Hid (∀ w1, Below w.heap.size w w1 → Calls Tryz.prog 14 #[.string s] w1 fun e w' => ∃ a cp, e = .returned (.tuple #[.slice a N cp, .int .i64 0]) ∧ Hid (Below w.heap.size w w' ∧ NRow w' a (nodesOf s.data.toList))) := hid (fun w1 h1 => by
      refine (tree_all s w1 hs2 (henvH.out.below h1).1).mono ?_
      rintro e w' ⟨B, a, cp, rfl, hB, ho, hb⟩
      exact ⟨a, cp, by rw [hN], hid ⟨h1.trans (hb.mono h1.size), nrow_of ho⟩⟩)
    have hG : Hid (∀ w1 a, Below w.heap.size w w1 ∧ NRow w1 a (nodesOf s.data.toList) → Calls Tryz.prog 32 #[.string s] w1 fun e w' => e = .returned (.tuple #[.string P, .int .i64 0]) ∧ Hid (Below w.heap.size w w' ∧ NRow w' a (nodesOf s.data.toList))) := hid (fun w1 a h1 => by
      have := page_any s w1 hs2 ((henvH.out.below h1.1).mono h1.1.size)
      rw [hPg] at this
      refine this.mono ?_
      rintro e w' ⟨rfl, hb⟩
      exact ⟨rfl, hid ⟨h1.1.trans (hb.mono h1.1.size), h1.2.below hb⟩⟩)
    have hD : Hid (∀ w1 a cp, Below w.heap.size w w1 ∧ NRow w1 a (nodesOf s.data.toList) → Calls Tryz.prog 33 #[.slice a N cp, .int .i64 0, .int .i64 0, .bool false] w1 fun e w' => e = .returned (.tuple #[.string P, .int .i64 N]) ∧ Hid (Below w.heap.size w w')) := hid (fun w1 a cp h1 => by
      have := nodes_any (cnL (treeOf s.data.toList)) (treeOf s.data.toList) (Nat.le_refl _) (nodesOf s.data.toList) [] a cp 0 0 false w1 h1.2 (by rw [List.drop_zero, List.append_nil, treeOf_nds]) (Nat.zero_le _) (fun y hy => by simp at hy) (by omega) (by omega) (by rw [treeOf_cn]; omega) (by rw [treeOf_ht]; omega) (treeOf_nm _)
      rw [treeOf_ht, treeOf_cn, hN, hPg, Nat.zero_add] at this
      refine this.mono ?_
      rintro e w' ⟨rfl, hb⟩
      exact ⟨rfl, hid (h1.1.trans (hb.mono h1.1.size))⟩)
    clear hs hs2 henvH hln hpl hN hPg
    go_enter Tryz.func11, Tryz.ntmps11
    go_wp2_with fail
    refine hP.out.mono ?_
    rintro e w1 ⟨rfl, hb1⟩
    have hTT := hid (hT.out w1 hb1)
    clear hb1
    go_wp2_with fail
    refine hTT.out.mono ?_
    rintro e w2 ⟨a, cp, rfl, h2⟩
    have hGG := hid (hG.out w2 a h2.out)
    go_wp2_with fail
    refine hGG.out.mono ?_
    rintro e w3 ⟨rfl, h3⟩
    have hDD := hid (hD.out w3 a cp h3.out)
    go_wp2_with fail
    refine hDD.out.mono ?_
    rintro e w4 ⟨rfl, h4⟩
    go_wp2
    go_ret
    exact ⟨by rfl, h4.out⟩
end Go.Proofs.YtlojgpkajkedeaaGreatDoor
