/- Escaped texts: plain. -/
import Derived.Test.YtlojgpkajkedeaaGreatDoorXM
namespace Go.Proofs.YtlojgpkajkedeaaGreatDoor
open Go.RowKit
namespace S
/-- A letter or a digit; a sign; a text with a mark ahead of each sign that is neither. -/
def alnum (b : UInt8) : Bool := letter b || isDig b
def esc1 (b : UInt8) : List UInt8 := if alnum b = true then [b] else [92, b]
def esc (cs : List UInt8) : List UInt8 := (cs.map esc1).flatten
def Sign (b : UInt8) : Prop := alnum b = true ∨ mark b = true
theorem esc_cons (b : UInt8) (cs : List UInt8) : esc (b :: cs) = esc1 b ++ esc cs := by simp [esc]
theorem alnum_ne {b c : UInt8} (h : alnum b = true) (hc : alnum c = false) : b ≠ c := by
  rintro rfl; rw [h] at hc; cases hc
end S

theorem at_split (ct : ByteArray) (A Z : List UInt8) (x : UInt8) (k : Nat) (h : ct.data.toList = A ++ x :: Z) (hk : k = A.length) : ∃ hlt : k < ct.size, ct[k] = x ∧ ct.data.toList.drop k = x :: Z := by
  have hl : k < ct.size := by rw [← S.length_data, h, hk]; simp
  refine ⟨hl, ?_, ?_⟩
  · have h1 := S.get_data ct k hl
    have h2 : ct.data.toList[k]? = some x := by
      rw [h, hk, List.getElem?_append_right (Nat.le_refl _), Nat.sub_self]; rfl
    exact Option.some.inj (h1.symm.trans h2)
  · rw [h, hk, List.drop_left' rfl]

theorem esc_run (ct : ByteArray) (Z : List UInt8) (cs : List UInt8) (hs : ∀ b ∈ cs, S.Sign b) : ∀ (A : List UInt8) (s : St), ct.data.toList = A ++ S.esc cs ++ Z → s.k = A.length → s.f ≤ s.k →
    ∃ f' T, (∀ r, Ends ct ⟨f', (A ++ S.esc cs).length, s.ps ++ T, s.os⟩ r → Ends ct s r) ∧ f' ≤ (A ++ S.esc cs).length ∧ (∀ p ∈ T, ∃ t, p = textPt t ∧ t ≠ []) ∧ (T.map Pt.text).flatten ++ (ct.data.toList.drop f').take ((A ++ S.esc cs).length - f') = (ct.data.toList.drop s.f).take (s.k - s.f) ++ cs := by
  induction cs with
  | nil =>
    intro A s h hk hf
    obtain ⟨f, k, ps, os⟩ := s
    dsimp only at hk hf
    subst hk
    refine ⟨f, [], ?_, ?_, by simp, ?_⟩
    · intro r hr; simpa [S.esc] using hr
    · simpa [S.esc] using hf
    · simp [S.esc]
  | cons b cs ih =>
    intro A s h hk hf
    rw [S.esc_cons] at h
    have hb := hs b (by simp)
    have hcs : ∀ b ∈ cs, S.Sign b := fun x hx => hs x (by simp [hx])
    by_cases ha : S.alnum b = true
    · have he : S.esc1 b = [b] := by unfold S.esc1; rw [if_pos ha]
      rw [he] at h
      have h1 : ct.data.toList = A ++ b :: (S.esc cs ++ Z) := by rw [h]; simp
      obtain ⟨hlt, hbk, hdr⟩ := at_split ct A _ b s.k h1 hk
      have hst := step_else ct s hlt (by rw [hbk]; exact S.alnum_ne ha (by decide)) (by rw [hbk]; exact S.alnum_ne ha (by decide)) (by rw [hbk]; exact S.alnum_ne ha (by decide)) (by rw [hbk]; exact S.alnum_ne ha (by decide)) (by rw [hbk]; exact S.alnum_ne ha (by decide)) (by rw [hbk]; exact S.alnum_ne ha (by decide)) (by rw [hbk]; exact S.alnum_ne ha (by decide)) (by rw [hbk]; exact S.alnum_ne ha (by decide)) (by rw [hbk]; exact S.alnum_ne ha (by decide)) (by rw [hbk]; exact S.alnum_ne ha (by decide))
      obtain ⟨f', T, q1, q2, q3, q4⟩ := ih hcs (A ++ [b]) (s.text 1) (by rw [h]; simp) (by show s.k + 1 = _; rw [hk]; simp) (by show s.f ≤ s.k + 1; omega)
      have hl : (A ++ [b] ++ S.esc cs).length = (A ++ S.esc (b :: cs)).length := by rw [S.esc_cons, he]; simp
      rw [hl] at q1 q2 q4
      refine ⟨f', T, fun r hr => .go s r hlt (by rw [hst]; exact q1 r hr), q2, q3, ?_⟩
      rw [q4]
      show (ct.data.toList.drop s.f).take (s.k + 1 - s.f) ++ cs = _
      rw [show s.k + 1 - s.f = (s.k - s.f) + 1 by omega, List.take_add_one, List.getElem?_drop, show s.f + (s.k - s.f) = s.k by omega, S.get_data ct s.k hlt, hbk]
      simp
    · have hm : S.mark b = true := hb.resolve_left ha
      have he : S.esc1 b = [92, b] := by unfold S.esc1; rw [if_neg ha]
      rw [he] at h
      have h1 : ct.data.toList = A ++ 92 :: (b :: (S.esc cs ++ Z)) := by rw [h]; simp
      obtain ⟨hlt, hbk, hdr⟩ := at_split ct A _ 92 s.k h1 hk
      have hb10 : b ≠ 10 := by rintro rfl; exact absurd hm (by decide)
      have hp : Lib.hasPrefix (ct.data.toList.drop s.k) [92, 10] = false := by
        rw [hdr]; unfold Lib.hasPrefix
        show ((92 : UInt8) == 92 && ((10 : UInt8) == b && List.isPrefixOf [] (S.esc cs ++ Z))) = false
        rw [beq_eq_false_iff_ne.2 (Ne.symm hb10)]; rfl
      have hes : S.escapes (ct.data.toList.drop s.k) = true := by
        rw [hdr]; unfold S.escapes; exact hm
      have hst := step_92 ct s hlt hbk
      rw [if_neg (by rw [hp]; simp), if_pos hes] at hst
      obtain ⟨f', T, q1, q2, q3, q4⟩ := ih hcs (A ++ [92, b]) ((s.skip ct 1).text 1) (by rw [h]; simp) (by show s.k + 1 + 1 = _; rw [hk]; simp) (by show s.k + 1 ≤ s.k + 1 + 1; omega)
      have hl : (A ++ [92, b] ++ S.esc cs).length = (A ++ S.esc (b :: cs)).length := by rw [S.esc_cons, he]; simp
      rw [hl] at q1 q2 q4
      refine ⟨f', skipPs ct s.f s.k ++ T, fun r hr => .go s r hlt (by rw [hst]; exact q1 r (by rw [← List.append_assoc] at hr; exact hr)), q2, ?_, ?_⟩
      · intro p hp
        rcases List.mem_append.1 hp with hp | hp
        · unfold skipPs at hp
          split at hp
          · rename_i hfk
            simp at hp; subst hp
            refine ⟨_, rfl, ?_⟩
            intro e
            have := congrArg List.length e
            rw [List.length_take, List.length_drop, S.length_data] at this
            simp only [List.length_nil] at this; omega
          · simp at hp
        · exact q3 p hp
      · rw [List.map_append, List.flatten_append, List.append_assoc, q4]
        have hx : (ct.data.toList.drop (s.k + 1)).take (s.k + 1 + 1 - (s.k + 1)) = [b] := by
          rw [← List.drop_drop, hdr, show s.k + 1 + 1 - (s.k + 1) = 1 by omega]; rfl
        show _ ++ ((ct.data.toList.drop (s.k + 1)).take (s.k + 1 + 1 - (s.k + 1)) ++ cs) = _
        rw [hx]
        have hy : ((skipPs ct s.f s.k).map Pt.text).flatten = (ct.data.toList.drop s.f).take (s.k - s.f) := by
          unfold skipPs
          split
          · simp [textPt, Pt.text]
          · rw [show s.k - s.f = 0 by omega]; simp
        rw [hy]; rfl

theorem pairF_plain (L l : List Pt) (h : ∀ p ∈ l, p.rc = false) : pairF L l = L ++ l := by
  induction l generalizing L with
  | nil => simp [pairF]
  | cons s r ih =>
    have hs := h s (by simp)
    have hc : closeF s.text.length L s = (L, s) := by
      cases s.text.length with
      | zero => rfl
      | succ n => simp only [closeF]; rw [if_neg (by rw [hs]; simp)]
    simp only [pairF, hc]
    rw [ih _ (fun p hp => h p (by simp [hp]))]; simp
theorem joinF_texts (T : List Pt) (h : ∀ p ∈ T, ∃ t, p = textPt t ∧ t ≠ []) (t : List UInt8) (ht : t ≠ []) (n : Nat) (hn : T.length < n) : joinF n (textPt t :: T) = [textPt (t ++ (T.map Pt.text).flatten)] := by
  induction T generalizing t n with
  | nil =>
    obtain ⟨m, rfl⟩ : ∃ m, n = m + 1 := ⟨n - 1, by omega⟩
    simp only [joinF]
    rw [if_pos (show (textPt t).kind = 8 from rfl), if_neg (show ¬ (textPt t).text = [] from ht)]; simp
  | cons p T ih =>
    obtain ⟨u, rfl, hu⟩ := h p (by simp)
    obtain ⟨m, rfl⟩ : ∃ m, n = m + 1 := ⟨n - 1, by omega⟩
    simp only [joinF]
    rw [if_pos (show (textPt t).kind = 8 from rfl), if_neg (show ¬ (textPt t).text = [] from ht), if_pos (show (textPt u).kind = 8 from rfl)]
    show joinF m (textPt (t ++ u) :: T) = _
    rw [ih (fun p hp => h p (by simp [hp])) (t ++ u) (by simp [ht]) m (by simpa using hn)]
    simp [textPt, Pt.text]
theorem settle_texts (T : List Pt) (h : ∀ p ∈ T, ∃ t, p = textPt t ∧ t ≠ []) (hne : T ≠ []) : settleT T = [textPt (T.map Pt.text).flatten] := by
  have hp : pairT T = T := by
    unfold pairT; rw [pairF_plain _ _ (fun p hp => by obtain ⟨t, rfl, _⟩ := h p hp; rfl)]; rfl
  unfold settleT
  rw [hp]
  unfold joinT
  cases T with
  | nil => exact absurd rfl hne
  | cons p T =>
    obtain ⟨u, rfl, hu⟩ := h p (by simp)
    rw [joinF_texts T (fun p hp => h p (by simp [hp])) u hu _ (by simp)]
    simp [textPt, Pt.text]
/-- A text that is escaped is itself. -/
theorem esc_cont (cs : List UInt8) (hs : ∀ b ∈ cs, S.Sign b) : contT (S.esc cs ++ [97]) = [textPt (cs ++ [97])] := by
  obtain ⟨ct, hct⟩ : ∃ ct, S.B (S.esc cs ++ [97]) = ct := ⟨_, rfl⟩
  have hd : ct.data.toList = [] ++ S.esc cs ++ [97] := by rw [← hct, S.data_B]; rfl
  obtain ⟨f, T, q1, q2, q3, q4⟩ := esc_run ct [97] cs hs [] start0 hd rfl (Nat.le_refl _)
  rw [List.nil_append] at q1 q2 q4
  have hd2 : ct.data.toList = S.esc cs ++ 97 :: [] := by rw [hd]; rfl
  obtain ⟨hlt, hbk, hdr⟩ := at_split ct (S.esc cs) [] 97 (S.esc cs).length hd2 rfl
  obtain ⟨s1, hs1⟩ : ∃ s1 : St, s1 = ⟨f, (S.esc cs).length, start0.ps ++ T, start0.os⟩ := ⟨_, rfl⟩
  have hk1 : s1.k = (S.esc cs).length := by rw [hs1]
  have hz : (S.esc cs).length + 1 = ct.size := by rw [← S.length_data, hd2]; simp
  have hE : Ends ct s1 ((s1.text 1).skip ct 0).ps := by
    refine .go s1 _ (by rw [hk1]; exact hlt) ?_
    have hbk' : ct[s1.k]'(by rw [hk1]; exact hlt) = 97 := by simp only [hk1]; exact hbk
    rw [step_else ct s1 (by rw [hk1]; exact hlt) (by rw [hbk']; decide) (by rw [hbk']; decide) (by rw [hbk']; decide) (by rw [hbk']; decide) (by rw [hbk']; decide) (by rw [hbk']; decide) (by rw [hbk']; decide) (by rw [hbk']; decide) (by rw [hbk']; decide) (by rw [hbk']; decide)]
    exact .done _ (by show s1.k + 1 = ct.size; omega)
  have hE0 := q1 _ (by rw [← hs1]; exact hE)
  rw [← hct] at hE0
  rw [contT_eq _ _ hE0]
  rw [hct] at hE0 ⊢
  have hps : ((s1.text 1).skip ct 0).ps = T ++ [textPt ((ct.data.toList.drop f).take ((S.esc cs).length + 1 - f))] := by
    rw [hs1]
    show ([] ++ T) ++ skipPs ct f ((S.esc cs).length + 1) = _
    unfold skipPs
    rw [if_pos (by omega)]; rfl
  have hlast : (ct.data.toList.drop f).take ((S.esc cs).length + 1 - f) = (ct.data.toList.drop f).take ((S.esc cs).length - f) ++ [97] := by
    rw [show (S.esc cs).length + 1 - f = ((S.esc cs).length - f) + 1 by omega, List.take_add_one, List.getElem?_drop, show f + ((S.esc cs).length - f) = (S.esc cs).length by omega, S.get_data ct _ hlt, hbk]
    rfl
  rw [hps, settle_texts _ (fun p hp => by
    rcases List.mem_append.1 hp with hp | hp
    · exact q3 p hp
    · simp at hp; subst hp; exact ⟨_, rfl, by rw [hlast]; simp⟩) (by simp)]
  rw [List.map_append, List.flatten_append, hlast]
  simp only [List.map_cons, List.map_nil, List.flatten_cons, List.flatten_nil, List.append_nil, textPt, Pt.text]
  rw [← List.append_assoc, q4]
  simp [start0]
end Go.Proofs.YtlojgpkajkedeaaGreatDoor
