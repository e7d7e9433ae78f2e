/- An escaped text between two runs: plain. -/
import Derived.Test.YtlojgpkajkedeaaGreatDoorXE
namespace Go.Proofs.YtlojgpkajkedeaaGreatDoor
open Go.RowKit

theorem S.esc_first (cs : List UInt8) (hs : ∀ b ∈ cs, S.Sign b) (hne : cs ≠ []) : ∃ b t, S.esc cs = b :: t ∧ b ≠ 42 ∧ b ≠ 32 ∧ b ≠ 10 := by
  cases cs with
  | nil => exact absurd rfl hne
  | cons c cs =>
    rw [S.esc_cons]
    unfold S.esc1
    by_cases ha : S.alnum c = true
    · rw [if_pos ha]
      exact ⟨c, S.esc cs, rfl, S.alnum_ne ha (by decide), S.alnum_ne ha (by decide), S.alnum_ne ha (by decide)⟩
    · rw [if_neg ha]
      exact ⟨92, c :: S.esc cs, rfl, by decide, by decide, by decide⟩
theorem pairF_mid (L T r : List Pt) (h : ∀ p ∈ T, p.rc = false) : pairF L (T ++ r) = pairF (L ++ T) r := by
  induction T generalizing L with
  | nil => simp
  | cons s t ih =>
    have hs := h s (by simp)
    have hc : closeF s.text.length L s = (L, s) := by
      cases s.text.length with
      | zero => rfl
      | succ n => simp only [closeF]; rw [if_neg (by rw [hs]; simp)]
    simp only [List.cons_append, pairF, hc]
    rw [ih _ (fun p hp => h p (by simp [hp]))]; simp
theorem joinT_texts (T : List Pt) (h : ∀ p ∈ T, ∃ t, p = textPt t ∧ t ≠ []) (hne : T ≠ []) : joinT T = [textPt (T.map Pt.text).flatten] := by
  unfold joinT
  cases T with
  | nil => exact absurd rfl hne
  | cons p T =>
    obtain ⟨u, rfl, hu⟩ := h p (by simp)
    rw [joinF_texts T (fun p hp => h p (by simp [hp])) u hu _ (by simp)]
    simp [textPt, Pt.text]
/-- What stands between two runs of two is strong. -/
theorem settle_strong (a b : Pt) (T : List Pt) (t : List UInt8) (ha : a.kind = 8 ∧ a.text = [42, 42] ∧ a.rs = 2 ∧ a.ro = true) (hb : b.kind = 8 ∧ b.text = [42, 42] ∧ b.rs = 2 ∧ b.rc = true) (hT : ∀ p ∈ T, ∃ u, p = textPt u ∧ u ≠ []) (hne : T ≠ []) (ht : t ≠ []) :
    settleT (a :: (T ++ [b, textPt t])) = [.mk 15 [] [] [textPt (T.map Pt.text).flatten] 0 false false, textPt t] := by
  have hTr : ∀ p ∈ T, p.rc = false := fun p hp => by obtain ⟨u, rfl, _⟩ := hT p hp; rfl
  have hTo : ∀ p ∈ T, opens b p = false := fun p hp => by obtain ⟨u, rfl, _⟩ := hT p hp; rfl
  have hop : opens b a = true := by
    unfold opens
    rw [ha.2.2.2, ha.2.1, hb.2.1, ha.2.2.1, hb.2.2.1]
    cases a.rc <;> cases b.ro <;> rfl
  have hc1 : closeF a.text.length [] a = ([], a) := by
    rw [ha.2.1]
    show closeF 2 [] a = ([], a)
    simp only [closeF]
    split
    · rfl
    · rfl
  have hw : wsize a b = 2 := by unfold wsize; rw [ha.2.1, hb.2.1]; rfl
  have hlast : lastO b (a :: T) = some ([], a, T) := by
    have h0 : lastO b T = none := lastO_none b T hTo
    simp only [lastO, h0]; rw [if_pos hop]
  have hc2 : closeF b.text.length (a :: T) b = ([a.withText [], wrapPt 2 T], b.withText []) := by
    rw [hb.2.1]
    show closeF 2 (a :: T) b = _
    simp only [closeF]
    rw [if_pos ⟨hb.2.2.2, by rw [hb.2.1]; simp⟩, hlast]
    dsimp only
    rw [hw, ha.2.1, hb.2.1]
    show (if (b.withText []).rc = true ∧ (b.withText []).text ≠ [] then _ else _) = _
    rw [if_neg (by rw [text_withText]; simp)]
    rfl
  have hp : pairT (a :: (T ++ [b, textPt t])) = [a.withText [], wrapPt 2 T, b.withText [], textPt t] := by
    unfold pairT
    rw [show pairF [] (a :: (T ++ [b, textPt t])) = pairF ((closeF a.text.length [] a).1 ++ [(closeF a.text.length [] a).2]) (T ++ [b, textPt t]) from rfl, hc1]
    show pairF [a] (T ++ [b, textPt t]) = _
    rw [pairF_mid _ _ _ hTr]
    show pairF (a :: T) [b, textPt t] = _
    rw [show pairF (a :: T) [b, textPt t] = pairF ((closeF b.text.length (a :: T) b).1 ++ [(closeF b.text.length (a :: T) b).2]) [textPt t] from rfl, hc2, pairF_plain _ _ (fun p hp => by simp at hp; subst hp; rfl)]
    rfl
  unfold settleT
  rw [hp]
  unfold joinT
  have hk1 : (a.withText []).kind = 8 := by obtain ⟨k, i, x, ks, z, o, c⟩ := a; exact ha.1
  have hk2 : (b.withText []).kind = 8 := by obtain ⟨k, i, x, ks, z, o, c⟩ := b; exact hb.1
  show joinF 4 [a.withText [], wrapPt 2 T, b.withText [], textPt t] = _
  simp only [joinF]
  rw [if_pos hk1, if_pos (text_withText _ _), if_neg (show ¬ (wrapPt 2 T).kind = 8 by show ¬ (15 : Int) = 8; decide), if_pos hk2, if_pos (text_withText _ _), if_pos (show (textPt t).kind = 8 from rfl), if_neg (show ¬ (textPt t).text = [] from ht)]
  have hwp : wrapPt 2 T = .mk 15 [] [] [textPt (T.map Pt.text).flatten] 0 false false := by
    unfold wrapPt; rw [joinT_texts T hT hne]; rfl
  rw [hwp]

/-- An escaped text between two runs is strong, and itself. -/
theorem strong_cont (cs : List UInt8) (hs : ∀ b ∈ cs, S.Sign b) : contT ([42, 42] ++ (S.esc cs ++ [97]) ++ [42, 42, 32, 98]) = [.mk 15 [] [] [textPt (cs ++ [97])] 0 false false, textPt [32, 98]] := by
  have hesc : S.esc (cs ++ [97]) = S.esc cs ++ [97] := by simp [S.esc, S.esc1]; decide
  have hs' : ∀ b ∈ cs ++ [97], S.Sign b := fun b hb => by
    rcases List.mem_append.1 hb with hb | hb
    · exact hs b hb
    · simp at hb; subst hb; exact .inl (by decide)
  rw [← hesc]
  obtain ⟨ds, hds⟩ : ∃ ds, ds = cs ++ [97] := ⟨_, rfl⟩
  rw [← hds] at hs' ⊢
  have hdne : ds ≠ [] := by rw [hds]; simp
  obtain ⟨b0, e0, hb0, hb42, hb32, hb10⟩ := S.esc_first ds hs' hdne
  obtain ⟨E, hEE⟩ : ∃ E, S.esc ds = E := ⟨_, rfl⟩
  have hElast : ∃ E', E = E' ++ [97] := ⟨S.esc cs, by rw [← hEE, hds, hesc]⟩
  rw [hEE] at hb0 ⊢
  obtain ⟨ct, hct⟩ : ∃ ct, S.B ([42, 42] ++ E ++ [42, 42, 32, 98]) = ct := ⟨_, rfl⟩
  have hd : ct.data.toList = [42, 42] ++ E ++ [42, 42, 32, 98] := by rw [← hct, S.data_B]
  have hsize : ct.size = E.length + 6 := by rw [← S.length_data, hd]; simp
  -- the first run
  have h0 : ct.data.toList = [] ++ 42 :: (42 :: (E ++ [42, 42, 32, 98])) := by rw [hd]; simp
  obtain ⟨hl0, hk0, hdr0⟩ := at_split ct [] _ 42 0 h0 rfl
  have hsame0 : S.same (ct.data.toList.drop 0) = 2 := by
    rw [hdr0, hb0]
    show S.cnt 42 (42 :: 42 :: (b0 :: e0 ++ [42, 42, 32, 98])) = 2
    simp [S.cnt, hb42]
  have hst0 := step_run ct start0 hl0 (.inl hk0)
  have hst0' : step ct start0 = ⟨2, 2, [runPt ct 0 2], []⟩ := by
    rw [hst0]
    show start0.lay ct (runPt ct 0 (S.same (ct.data.toList.drop 0))) (S.same (ct.data.toList.drop 0)) = _
    rw [hsame0]; rfl
  -- the text
  obtain ⟨f, T, q1, q2, q3, q4⟩ := esc_run ct [42, 42, 32, 98] ds hs' [42, 42] ⟨2, 2, [runPt ct 0 2], []⟩ (by rw [hd, hEE]) rfl (Nat.le_refl _)
  rw [hEE] at q1 q2 q4
  obtain ⟨K, hK⟩ : ∃ K, ([42, 42] ++ E : List UInt8).length = K := ⟨_, rfl⟩
  have hKE : K = E.length + 2 := by rw [← hK]; simp
  rw [hK] at q1 q2 q4
  -- the second run
  have hK1 : ct.data.toList = ([42, 42] ++ E) ++ 42 :: (42 :: 32 :: 98 :: []) := by rw [hd]
  obtain ⟨hlK, hkK, hdrK⟩ := at_split ct _ _ 42 K hK1 hK.symm
  have hsameK : S.same (ct.data.toList.drop K) = 2 := by rw [hdrK]; rfl
  obtain ⟨s2, hs2⟩ : ∃ s2 : St, s2 = ⟨f, K, [runPt ct 0 2] ++ T, []⟩ := ⟨_, rfl⟩
  have hst2 : step ct s2 = ⟨K + 2, K + 2, (([runPt ct 0 2] ++ T) ++ skipPs ct f K) ++ [runPt ct K 2], []⟩ := by
    subst hs2
    rw [step_run ct _ hlK (.inl hkK)]
    show St.lay ct ⟨f, K, [runPt ct 0 2] ++ T, []⟩ (runPt ct K (S.same (ct.data.toList.drop K))) (S.same (ct.data.toList.drop K)) = _
    rw [hsameK]; rfl
  -- the space
  have hK2 : ct.data.toList = ([42, 42] ++ E ++ [42, 42]) ++ 32 :: (98 :: []) := by rw [hd]; simp
  obtain ⟨hl3, hk3, hdr3⟩ := at_split ct _ _ 32 (K + 2) hK2 (by simp; omega)
  have hsame3 : S.same (ct.data.toList.drop (K + 2)) = 1 := by rw [hdr3]; rfl
  obtain ⟨s3, hs3⟩ : ∃ s3 : St, s3 = ⟨K + 2, K + 2, (([runPt ct 0 2] ++ T) ++ skipPs ct f K) ++ [runPt ct K 2], []⟩ := ⟨_, rfl⟩
  have hst3 : step ct s3 = s3.text 1 := by
    have hk : s3.k = K + 2 := by rw [hs3]
    subst hs3
    rw [step_32 ct _ hl3 hk3]
    show (if Lib.hasPrefix (ct.data.toList.drop (K + 2 + S.same (ct.data.toList.drop (K + 2)))) [10] = true then _ else _) = _
    rw [hsame3, if_neg]
    rw [← List.drop_drop, hdr3]
    decide
  have hK4 : ct.data.toList = ([42, 42] ++ E ++ [42, 42, 32]) ++ 98 :: [] := by rw [hd]; simp
  obtain ⟨hl4, hk4, hdr4⟩ := at_split ct _ _ 98 (K + 3) hK4 (by simp; omega)
  have hst4 : step ct (s3.text 1) = (s3.text 1).text 1 := by
    subst hs3
    exact step_else ct _ hl4 (by show ct[K + 3] ≠ 92; rw [hk4]; decide) (by show ct[K + 3] ≠ 96; rw [hk4]; decide) (by show ct[K + 3] ≠ 32; rw [hk4]; decide) (by show ct[K + 3] ≠ 10; rw [hk4]; decide) (by show ct[K + 3] ≠ 60; rw [hk4]; decide) (by show ct[K + 3] ≠ 42; rw [hk4]; decide) (by show ct[K + 3] ≠ 95; rw [hk4]; decide) (by show ct[K + 3] ≠ 33; rw [hk4]; decide) (by show ct[K + 3] ≠ 91; rw [hk4]; decide) (by show ct[K + 3] ≠ 93; rw [hk4]; decide)
  obtain ⟨R, hR⟩ : ∃ R, R = (((s3.text 1).text 1).skip ct 0).ps := ⟨_, rfl⟩
  have hE : Ends ct start0 R := by
    refine .go start0 _ hl0 ?_
    rw [hst0']
    refine q1 _ ?_
    rw [← hs2]
    refine .go s2 _ (by rw [hs2]; exact hlK) ?_
    rw [hst2, ← hs3]
    refine .go s3 _ (by rw [hs3]; exact hl3) ?_
    rw [hst3]
    refine .go _ _ (by rw [hs3]; exact hl4) ?_
    rw [hst4, hR]
    exact .done _ (by rw [hs3]; show K + 2 + 1 + 1 = ct.size; omega)
  rw [contT_eq _ R (by rw [hct]; exact hE)]
  have htl : (ct.data.toList.drop (K + 2)).take (K + 2 + 1 + 1 - (K + 2)) = [32, 98] := by
    rw [hdr3, show K + 2 + 1 + 1 - (K + 2) = 2 by omega]; rfl
  have hRe : R = runPt ct 0 2 :: ((T ++ skipPs ct f K) ++ [runPt ct K 2, textPt [32, 98]]) := by
    rw [hR, hs3]
    show ((([runPt ct 0 2] ++ T) ++ skipPs ct f K) ++ [runPt ct K 2]) ++ skipPs ct (K + 2) (K + 2 + 1 + 1) = _
    have : skipPs ct (K + 2) (K + 2 + 1 + 1) = [textPt [32, 98]] := by
      unfold skipPs; rw [if_pos (by omega), htl]
    rw [this]; simp
  have hq : ((T ++ skipPs ct f K).map Pt.text).flatten = ds := by
    have hy : ((skipPs ct f K).map Pt.text).flatten = (ct.data.toList.drop f).take (K - f) := by
      unfold skipPs
      split
      · simp [textPt, Pt.text]
      · rw [show K - f = 0 by omega]; simp
    rw [List.map_append, List.flatten_append, hy, q4]
    simp
  have hTne : T ++ skipPs ct f K ≠ [] := fun e => by rw [e] at hq; simp at hq; exact hdne hq
  have hside2 : S.side ct.data.toList 2 ≠ 0 := by
    unfold S.side
    have h2 : ct.data.toList[(2 : Int).toNat]? = some b0 := by rw [hd, hb0]; rfl
    rw [if_neg (by rw [S.length_data]; omega), h2]
    dsimp only
    rw [if_neg (by rintro (h | h); exact hb32 h; exact hb10 h)]
    split <;> decide
  have hro : (runPt ct 0 2).ro = true := by
    show S.runOpens ct.data.toList 0 2 = true
    unfold S.runOpens
    rw [if_pos (by rw [hd]; rfl)]
    have hm1 : S.side ct.data.toList ((0 : Nat) - 1 : Int) = 0 := by unfold S.side; rw [if_pos (by left; decide)]
    show S.leans (S.side ct.data.toList 2) (S.side ct.data.toList ((0 : Nat) - 1 : Int)) = true
    rw [hm1]
    unfold S.leans
    rw [decide_eq_true hside2]; simp
  have hsideK : S.side ct.data.toList ((K + 2 : Nat) : Int) = 0 := by
    unfold S.side
    rw [if_neg (by rw [S.length_data]; omega)]
    have : ct.data.toList[((K + 2 : Nat) : Int).toNat]? = some 32 := by
      rw [Int.toNat_natCast, S.get_data ct (K + 2) hl3, hk3]
    rw [this]; rfl
  have hsideB : S.side ct.data.toList ((K : Int) - 1) = 2 := by
    obtain ⟨E', hE'⟩ := hElast
    have hla : ct.data.toList = ([42, 42] ++ E') ++ 97 :: [42, 42, 32, 98] := by rw [hd, hE']; simp
    obtain ⟨hl5, hk5, _⟩ := at_split ct _ _ 97 (K - 1) hla (by simp; rw [hKE, hE']; simp)
    unfold S.side
    rw [if_neg (by rw [S.length_data]; omega)]
    have : ct.data.toList[((K : Int) - 1).toNat]? = some 97 := by
      rw [show ((K : Int) - 1).toNat = K - 1 by omega, S.get_data ct (K - 1) hl5, hk5]
    rw [this]; rfl
  have hrc : (runPt ct K 2).rc = true := by
    show S.runCloses ct.data.toList K 2 = true
    unfold S.runCloses
    rw [if_pos (by rw [S.get_data ct K hlK, hkK]), hsideK, hsideB]
    rfl
  rw [hRe, settle_strong (runPt ct 0 2) (runPt ct K 2) (T ++ skipPs ct f K) [32, 98] ⟨rfl, by show (ct.data.toList.drop 0).take 2 = _; rw [hdr0]; rfl, rfl, hro⟩ ⟨rfl, by show (ct.data.toList.drop K).take 2 = _; rw [hdrK]; rfl, rfl, hrc⟩ (fun p hp => by
    rcases List.mem_append.1 hp with hp | hp
    · exact q3 p hp
    · unfold skipPs at hp
      split at hp
      · rename_i hfk
        simp at hp; subst hp
        refine ⟨_, rfl, ?_⟩
        intro e
        have := congrArg List.length e
        rw [List.length_take, List.length_drop, S.length_data] at this
        simp only [List.length_nil] at this; omega
      · simp at hp) hTne (by simp), hq]
end Go.Proofs.YtlojgpkajkedeaaGreatDoor
