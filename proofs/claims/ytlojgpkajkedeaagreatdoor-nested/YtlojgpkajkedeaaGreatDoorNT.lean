import Derived.Test.YtlojgpkajkedeaaGreatDoorXS
import Derived.Test.YtlojgpkajkedeaaGreatDoorXN
/- Texts put within one another: plain: what their parts come to. -/
namespace Go.Proofs.YtlojgpkajkedeaaGreatDoor
open Go.RowKit

/-- What is put within what: a letter; emphasis, strong (by a mark), a link, an image. -/
inductive Nst where
  | x
  | em (m : UInt8) (t : Nst)
  | st (m : UInt8) (t : Nst)
  | li (t : Nst)
  | im (t : Nst)
def runO (m : UInt8) (n : Nat) : Pt := .mk 8 [] (List.replicate n m) [] n true false
def runC (m : UInt8) (n : Nat) : Pt := .mk 8 [] (List.replicate n m) [] n false true
def addrN : List UInt8 := [117, 63, 118]
def bxc : List UInt8 := [98, 32, 120, 32, 99]
/-- Its parts as they are cut. -/
def qN : Nst → List Pt
  | .x => []
  | .em m t => runO m 1 :: ((match t with | .x => [textPt bxc] | _ => textPt [98, 32] :: (qN t ++ [textPt [32, 99]])) ++ [runC m 1])
  | .st m t => runO m 2 :: ((match t with | .x => [textPt bxc] | _ => textPt [98, 32] :: (qN t ++ [textPt [32, 99]])) ++ [runC m 2])
  | .li t => [closePt addrN false (match t with | .x => [textPt bxc] | _ => textPt [98, 32] :: (qN t ++ [textPt [32, 99]]))]
  | .im t => [closePt [] true (match t with | .x => [textPt bxc] | _ => textPt [98, 32] :: (qN t ++ [textPt [32, 99]]))]
/-- Its parts, paired. -/
def dN : Nst → List Pt
  | .x => []
  | .em m t => [(runO m 1).withText [], wrapPt 1 (match t with | .x => [textPt bxc] | _ => textPt [98, 32] :: (dN t ++ [textPt [32, 99]])), (runC m 1).withText []]
  | .st m t => [(runO m 2).withText [], wrapPt 2 (match t with | .x => [textPt bxc] | _ => textPt [98, 32] :: (dN t ++ [textPt [32, 99]])), (runC m 2).withText []]
  | .li t => [closePt addrN false (match t with | .x => [textPt bxc] | _ => textPt [98, 32] :: (qN t ++ [textPt [32, 99]]))]
  | .im t => [closePt [] true (match t with | .x => [textPt bxc] | _ => textPt [98, 32] :: (qN t ++ [textPt [32, 99]]))]
def qI (t : Nst) : List Pt := match t with | .x => [textPt bxc] | _ => textPt [98, 32] :: (qN t ++ [textPt [32, 99]])
def dI (t : Nst) : List Pt := match t with | .x => [textPt bxc] | _ => textPt [98, 32] :: (dN t ++ [textPt [32, 99]])
theorem qN_em (m : UInt8) (t : Nst) : qN (.em m t) = runO m 1 :: (qI t ++ [runC m 1]) := by simp only [qN]; rfl
theorem qN_st (m : UInt8) (t : Nst) : qN (.st m t) = runO m 2 :: (qI t ++ [runC m 2]) := by simp only [qN]; rfl
theorem qN_li (t : Nst) : qN (.li t) = [closePt addrN false (qI t)] := by simp only [qN]; rfl
theorem qN_im (t : Nst) : qN (.im t) = [closePt [] true (qI t)] := by simp only [qN]; rfl
theorem dN_em (m : UInt8) (t : Nst) : dN (.em m t) = [(runO m 1).withText [], wrapPt 1 (dI t), (runC m 1).withText []] := by simp only [dN]; rfl
theorem dN_st (m : UInt8) (t : Nst) : dN (.st m t) = [(runO m 2).withText [], wrapPt 2 (dI t), (runC m 2).withText []] := by simp only [dN]; rfl
theorem dN_li (t : Nst) : dN (.li t) = [closePt addrN false (qI t)] := by simp only [dN]; rfl
theorem dN_im (t : Nst) : dN (.im t) = [closePt [] true (qI t)] := by simp only [dN]; rfl

/-- A part that opens nothing. -/
def Dull (p : Pt) : Prop := p.ro = false ∨ p.text = []
theorem dull_opens (s p : Pt) (h : Dull p) : opens s p = false := by
  unfold opens
  rcases h with h | h
  · rw [h]; rfl
  · rw [h]; simp
theorem dull_wrap (z : Nat) (l : List Pt) : Dull (wrapPt z l) := .inl rfl
theorem dull_text (t : List UInt8) : Dull (textPt t) := .inl rfl
theorem dull_close (t : List UInt8) (b : Bool) (l : List Pt) : Dull (closePt t b l) := .inl rfl
theorem dull_d (t : Nst) : ∀ p ∈ dN t, Dull p := by
  cases t with
  | x => intro p hp; simp [dN] at hp
  | em m t =>
    rw [dN_em]; intro p hp
    simp at hp
    rcases hp with rfl | rfl | rfl
    · exact .inr (text_withText _ _)
    · exact dull_wrap _ _
    · exact .inr (text_withText _ _)
  | st m t =>
    rw [dN_st]; intro p hp
    simp at hp
    rcases hp with rfl | rfl | rfl
    · exact .inr (text_withText _ _)
    · exact dull_wrap _ _
    · exact .inr (text_withText _ _)
  | li t => rw [dN_li]; intro p hp; simp at hp; subst hp; exact dull_close _ _ _
  | im t => rw [dN_im]; intro p hp; simp at hp; subst hp; exact dull_close _ _ _
theorem dull_dI (t : Nst) : ∀ p ∈ dI t, Dull p := by
  intro p hp
  have hd := dull_d t
  cases t with
  | x => simp [dI] at hp; subst hp; exact dull_text _
  | _ =>
    simp only [dI, List.mem_cons, List.mem_append, List.mem_nil_iff, or_false] at hp
    rcases hp with rfl | hp | rfl
    · exact dull_text _
    · exact hd p hp
    · exact dull_text _

/-- A run that closes finds the one that it belongs to. -/
theorem close_pair (L D : List Pt) (m : UInt8) (n : Nat) (hn : n = 1 ∨ n = 2) (hD : ∀ p ∈ D, Dull p) :
    closeF (runC m n).text.length (L ++ runO m n :: D) (runC m n) = (L ++ [(runO m n).withText [], wrapPt n D], (runC m n).withText []) := by
  have hlast : lastO (runC m n) (L ++ runO m n :: D) = some (L, runO m n, D) := by
    refine lastO_some (runC m n) L (runO m n) D ?_ (fun p hp => dull_opens _ p (hD p hp))
    rcases hn with rfl | rfl <;> simp [opens, runO, runC, Pt.ro, Pt.rc, Pt.text, S.fits]
  have hne : (runC m n).text ≠ [] := by rcases hn with rfl | rfl <;> simp [runC, Pt.text]
  have hw : wsize (runO m n) (runC m n) = n := by
    unfold wsize
    rcases hn with rfl | rfl <;> simp [runO, runC, Pt.text]
  have hl : (runC m n).text.length = n := by simp [runC, Pt.text]
  have hd1 : (runO m n).text.drop n = [] := by simp [runO, Pt.text]
  have hd2 : (runC m n).text.drop n = [] := by simp [runC, Pt.text]
  rw [hl]
  obtain ⟨k, hk⟩ : ∃ k, n = k + 1 := ⟨n - 1, by omega⟩
  conv => lhs; rw [hk]
  simp only [closeF]
  rw [← hk, if_pos ⟨rfl, hne⟩, hlast]
  dsimp only
  rw [hw, hd1, hd2]
  have hs : ((runC m n).withText []).text = [] := text_withText _ _
  cases k with
  | zero => rfl
  | succ k => simp only [closeF]; rw [if_neg (by rw [hs]; simp)]
theorem pairF_one (L r : List Pt) (p : Pt) (h : p.rc = false) : pairF L (p :: r) = pairF (L ++ [p]) r := pairF_mid L [p] r (fun q hq => by simp at hq; subst hq; exact h)
theorem pair_q (t : Nst) : ∀ (L r : List Pt), pairF L (qN t ++ r) = pairF (L ++ dN t) r ∧ pairF L (qI t ++ r) = pairF (L ++ dI t) r := by
  induction t with
  | x =>
    intro L r
    refine ⟨by simp [qN, dN], ?_⟩
    show pairF L (textPt bxc :: r) = pairF (L ++ [textPt bxc]) r
    exact pairF_one L r _ rfl
  | em m t ih =>
    have h1 : ∀ (L r : List Pt), pairF L (qN (.em m t) ++ r) = pairF (L ++ dN (.em m t)) r := by
      intro L r
      rw [qN_em, dN_em, List.cons_append, pairF_one _ _ _ rfl, List.append_assoc, (ih _ _).2]
      show pairF (L ++ [runO m 1] ++ dI t) (runC m 1 :: r) = _
      rw [show L ++ [runO m 1] ++ dI t = L ++ runO m 1 :: dI t by simp]
      rw [show pairF (L ++ runO m 1 :: dI t) (runC m 1 :: r) = pairF ((closeF (runC m 1).text.length (L ++ runO m 1 :: dI t) (runC m 1)).1 ++ [(closeF (runC m 1).text.length (L ++ runO m 1 :: dI t) (runC m 1)).2]) r from rfl, close_pair L (dI t) m 1 (.inl rfl) (dull_dI t)]
      simp
    intro L r
    refine ⟨h1 L r, ?_⟩
    show pairF L (textPt [98, 32] :: (qN (.em m t) ++ [textPt [32, 99]]) ++ r) = pairF (L ++ (textPt [98, 32] :: (dN (.em m t) ++ [textPt [32, 99]]))) r
    rw [List.cons_append, pairF_one _ _ _ rfl, List.append_assoc, h1, List.cons_append, List.nil_append, pairF_one _ _ _ rfl]
    simp
  | st m t ih =>
    have h1 : ∀ (L r : List Pt), pairF L (qN (.st m t) ++ r) = pairF (L ++ dN (.st m t)) r := by
      intro L r
      rw [qN_st, dN_st, List.cons_append, pairF_one _ _ _ rfl, List.append_assoc, (ih _ _).2]
      show pairF (L ++ [runO m 2] ++ dI t) (runC m 2 :: r) = _
      rw [show L ++ [runO m 2] ++ dI t = L ++ runO m 2 :: dI t by simp]
      rw [show pairF (L ++ runO m 2 :: dI t) (runC m 2 :: r) = pairF ((closeF (runC m 2).text.length (L ++ runO m 2 :: dI t) (runC m 2)).1 ++ [(closeF (runC m 2).text.length (L ++ runO m 2 :: dI t) (runC m 2)).2]) r from rfl, close_pair L (dI t) m 2 (.inr rfl) (dull_dI t)]
      simp
    intro L r
    refine ⟨h1 L r, ?_⟩
    show pairF L (textPt [98, 32] :: (qN (.st m t) ++ [textPt [32, 99]]) ++ r) = pairF (L ++ (textPt [98, 32] :: (dN (.st m t) ++ [textPt [32, 99]]))) r
    rw [List.cons_append, pairF_one _ _ _ rfl, List.append_assoc, h1, List.cons_append, List.nil_append, pairF_one _ _ _ rfl]
    simp
  | li t ih =>
    have h1 : ∀ (L r : List Pt), pairF L (qN (.li t) ++ r) = pairF (L ++ dN (.li t)) r := by
      intro L r
      rw [qN_li, dN_li]; exact pairF_one _ _ _ rfl
    intro L r
    refine ⟨h1 L r, ?_⟩
    show pairF L (textPt [98, 32] :: (qN (.li t) ++ [textPt [32, 99]]) ++ r) = pairF (L ++ (textPt [98, 32] :: (dN (.li t) ++ [textPt [32, 99]]))) r
    rw [List.cons_append, pairF_one _ _ _ rfl, List.append_assoc, h1, List.cons_append, List.nil_append, pairF_one _ _ _ rfl]
    simp
  | im t ih =>
    have h1 : ∀ (L r : List Pt), pairF L (qN (.im t) ++ r) = pairF (L ++ dN (.im t)) r := by
      intro L r
      rw [qN_im, dN_im]; exact pairF_one _ _ _ rfl
    intro L r
    refine ⟨h1 L r, ?_⟩
    show pairF L (textPt [98, 32] :: (qN (.im t) ++ [textPt [32, 99]]) ++ r) = pairF (L ++ (textPt [98, 32] :: (dN (.im t) ++ [textPt [32, 99]]))) r
    rw [List.cons_append, pairF_one _ _ _ rfl, List.append_assoc, h1, List.cons_append, List.nil_append, pairF_one _ _ _ rfl]
    simp
theorem settle_qI (t : Nst) : settleT (qI t) = joinT (dI t) := by
  have := (pair_q t [] []).2
  rw [List.append_nil, List.nil_append] at this
  unfold settleT pairT
  rw [this]; rfl
theorem settle_qN (t : Nst) : settleT (qN t) = joinT (dN t) := by
  have := (pair_q t [] []).1
  rw [List.append_nil, List.nil_append] at this
  unfold settleT pairT
  rw [this]; rfl
/-- The one part that it is; those that stand within, joined. -/
def headN : Nst → Pt
  | .em m _ => (runO m 1).withText [98, 32]
  | .st m _ => (runO m 2).withText [98, 32]
  | _ => textPt [98, 32]
def partN : Nst → Pt
  | .x => textPt [120]
  | .em _ t => wrapPt 1 (dI t)
  | .st _ t => wrapPt 2 (dI t)
  | .li t => closePt addrN false (qI t)
  | .im t => closePt [] true (qI t)
theorem join_dI (t : Nst) (h : t ≠ .x) : joinT (dI t) = [headN t, partN t, textPt [32, 99]] := by
  cases t with
  | x => exact absurd rfl h
  | em m t =>
    show joinT (textPt [98, 32] :: (dN (.em m t) ++ [textPt [32, 99]])) = _
    rw [dN_em]
    rfl
  | st m t =>
    show joinT (textPt [98, 32] :: (dN (.st m t) ++ [textPt [32, 99]])) = _
    rw [dN_st]
    rfl
  | li t =>
    show joinT (textPt [98, 32] :: (dN (.li t) ++ [textPt [32, 99]])) = _
    rw [dN_li]
    rfl
  | im t =>
    show joinT (textPt [98, 32] :: (dN (.im t) ++ [textPt [32, 99]])) = _
    rw [dN_im]
    rfl
theorem join_dN (t : Nst) (h : t ≠ .x) : joinT (dN t) = [partN t] := by
  cases t with
  | x => exact absurd rfl h
  | em m t => rw [dN_em]; rfl
  | st m t => rw [dN_st]; rfl
  | li t => rw [dN_li]; rfl
  | im t => rw [dN_im]; rfl
theorem join_x : joinT (dI .x) = [textPt bxc] := rfl
end Go.Proofs.YtlojgpkajkedeaaGreatDoor
/- Texts put within one another: plain: how they are cut. -/
namespace Go.Proofs.YtlojgpkajkedeaaGreatDoor
open Go.RowKit

/-- The text of it. -/
def txtN : Nst → List UInt8
  | .x => [120]
  | .em m t => List.replicate 1 m ++ ([98, 32] ++ txtN t ++ [32, 99]) ++ List.replicate 1 m
  | .st m t => List.replicate 2 m ++ ([98, 32] ++ txtN t ++ [32, 99]) ++ List.replicate 2 m
  | .li t => [91] ++ ([98, 32] ++ txtN t ++ [32, 99]) ++ [93, 40, 117, 63, 118, 41]
  | .im t => [33, 91] ++ ([98, 32] ++ txtN t ++ [32, 99]) ++ [93, 40, 41]
def hasL : Nst → Bool
  | .x => false
  | .em _ t => hasL t
  | .st _ t => hasL t
  | .li _ => true
  | .im t => hasL t
def wfN : Nst → Prop
  | .x => True
  | .em m t => (m = 42 ∨ m = 95) ∧ wfN t
  | .st m t => (m = 42 ∨ m = 95) ∧ wfN t
  | .li t => hasL t = false ∧ wfN t
  | .im t => wfN t
theorem txtN_first (t : Nst) (h : wfN t) : ∃ b r, txtN t = b :: r ∧ b ≠ 32 ∧ b ≠ 10 := by
  cases t with
  | x => exact ⟨120, [], rfl, by decide, by decide⟩
  | em m t => exact ⟨m, _, rfl, by rcases h.1 with rfl | rfl <;> decide, by rcases h.1 with rfl | rfl <;> decide⟩
  | st m t => exact ⟨m, _, rfl, by rcases h.1 with rfl | rfl <;> decide, by rcases h.1 with rfl | rfl <;> decide⟩
  | li t => exact ⟨91, _, rfl, by decide, by decide⟩
  | im t => exact ⟨33, _, rfl, by decide, by decide⟩

/-- A letter is text. -/
theorem ends_letter (ct : ByteArray) (A Z : List UInt8) (b : UInt8) (s : St) (h : ct.data.toList = A ++ b :: Z) (hk : s.k = A.length) (hb : S.alnum b = true) (r : List Pt) (hr : Ends ct (s.text 1) r) : Ends ct s r := by
  obtain ⟨hlt, hbk, _⟩ := at_split ct A Z b s.k h hk
  refine .go s r hlt ?_
  rw [step_else ct s hlt (by rw [hbk]; exact S.alnum_ne hb (by decide)) (by rw [hbk]; exact S.alnum_ne hb (by decide)) (by rw [hbk]; exact S.alnum_ne hb (by decide)) (by rw [hbk]; exact S.alnum_ne hb (by decide)) (by rw [hbk]; exact S.alnum_ne hb (by decide)) (by rw [hbk]; exact S.alnum_ne hb (by decide)) (by rw [hbk]; exact S.alnum_ne hb (by decide)) (by rw [hbk]; exact S.alnum_ne hb (by decide)) (by rw [hbk]; exact S.alnum_ne hb (by decide)) (by rw [hbk]; exact S.alnum_ne hb (by decide))]
  exact hr
/-- A space ahead of what is neither a space nor a newline is text. -/
theorem ends_space (ct : ByteArray) (A Z : List UInt8) (y : UInt8) (s : St) (h : ct.data.toList = A ++ 32 :: (y :: Z)) (hk : s.k = A.length) (h1 : y ≠ 32) (h2 : y ≠ 10) (r : List Pt) (hr : Ends ct (s.text 1) r) : Ends ct s r := by
  obtain ⟨hlt, hbk, hdr⟩ := at_split ct A _ 32 s.k h hk
  refine .go s r hlt ?_
  have hs : S.same (ct.data.toList.drop s.k) = 1 := by
    rw [hdr]; show S.cnt 32 (32 :: y :: Z) = 1; simp [S.cnt, h1]
  have hp : Lib.hasPrefix (ct.data.toList.drop (s.k + 1)) [10] = false := by
    rw [← List.drop_drop, hdr]
    show Lib.hasPrefix (y :: Z) [10] = false
    unfold Lib.hasPrefix
    show ((10 : UInt8) == y && List.isPrefixOf [] Z) = false
    rw [beq_eq_false_iff_ne.2 (Ne.symm h2)]; rfl
  rw [step_32 ct s hlt hbk, hs, if_neg (by rw [hp]; simp)]
  exact hr
/-- What runN says of a text. -/
def RunN (t : Nst) : Prop := ∀ (ct : ByteArray) (A Z : List UInt8) (s : St), ct.data.toList = A ++ txtN t ++ Z → S.side ct.data.toList ((A.length : Int) - 1) = 0 → S.side ct.data.toList (((A ++ txtN t).length : Nat) : Int) = 0 → s.k = A.length → s.f ≤ s.k → (hasL t = true → ∀ o ∈ s.os, o.image = true) →
  ∀ r, Ends ct ⟨(A ++ txtN t).length, (A ++ txtN t).length, (s.ps ++ skipPs ct s.f s.k) ++ qN t, s.os⟩ r → Ends ct s r

theorem side_space (ct : ByteArray) (A Z : List UInt8) (k : Int) (h : ct.data.toList = A ++ 32 :: Z) (hk : k = (A.length : Int)) : S.side ct.data.toList k = 0 := by
  obtain ⟨hlt, hbk, _⟩ := at_split ct A Z 32 A.length h rfl
  subst hk
  unfold S.side
  rw [if_neg (by rw [S.length_data]; omega)]
  have : ct.data.toList[((A.length : Nat) : Int).toNat]? = some 32 := by rw [Int.toNat_natCast, S.get_data ct _ hlt, hbk]
  rw [this]; rfl
theorem side_letter (ct : ByteArray) (A Z : List UInt8) (b : UInt8) (k : Int) (h : ct.data.toList = A ++ b :: Z) (hk : k = (A.length : Int)) (hb : S.letter b = true) : S.side ct.data.toList k = 2 := by
  obtain ⟨hlt, hbk, _⟩ := at_split ct A Z b A.length h rfl
  subst hk
  unfold S.side
  rw [if_neg (by rw [S.length_data]; omega)]
  have : ct.data.toList[((A.length : Nat) : Int).toNat]? = some b := by rw [Int.toNat_natCast, S.get_data ct _ hlt, hbk]
  rw [this]
  dsimp only
  have hn : ∀ x : UInt8, S.letter x = false → b ≠ x := fun x hx e => by rw [e, hx] at hb; cases hb
  rw [if_neg (by rintro (h | h); exact hn 32 (by decide) h; exact hn 10 (by decide) h), if_neg]
  unfold S.mark; rw [hb]; simp

/-- What stands within: a 'b' and a space, the text, a space and a 'c'. -/
theorem inner_run (t : Nst) (hw : wfN t) (ih : t ≠ .x → RunN t) (ct : ByteArray) (A Z : List UInt8) (s : St) (h : ct.data.toList = A ++ ([98, 32] ++ txtN t ++ [32, 99]) ++ Z) (hk : s.k = A.length) (hf : s.f = s.k) (ho : hasL t = true → ∀ o ∈ s.os, o.image = true) :
    ∃ f' R, (∀ r, Ends ct ⟨f', (A ++ ([98, 32] ++ txtN t ++ [32, 99])).length, s.ps ++ R, s.os⟩ r → Ends ct s r) ∧ f' ≤ (A ++ ([98, 32] ++ txtN t ++ [32, 99])).length ∧ R ++ skipPs ct f' (A ++ ([98, 32] ++ txtN t ++ [32, 99])).length = qI t := by
  obtain ⟨b0, r0, hb0, hb32, hb10⟩ := txtN_first t hw
  have h1 : ct.data.toList = A ++ 98 :: (32 :: (txtN t ++ [32, 99] ++ Z)) := by rw [h]; simp
  have h2 : ct.data.toList = (A ++ [98]) ++ 32 :: (b0 :: (r0 ++ [32, 99] ++ Z)) := by rw [h, hb0]; simp
  have hstart : ∀ r, Ends ct ((s.text 1).text 1) r → Ends ct s r := fun r hr =>
    ends_letter ct A _ 98 s h1 hk (by decide) r (ends_space ct (A ++ [98]) _ b0 (s.text 1) h2 (by show s.k + 1 = _; rw [hk]; simp) hb32 hb10 r hr)
  have hend : ∀ (f : Nat) (ps : List Pt) (os : List Opn) (r : List Pt), Ends ct ⟨f, (A ++ ([98, 32] ++ txtN t ++ [32, 99])).length, ps, os⟩ r → Ends ct ⟨f, (A ++ [98, 32] ++ txtN t).length, ps, os⟩ r := by
    intro f ps os r hr
    have h3 : ct.data.toList = (A ++ [98, 32] ++ txtN t) ++ 32 :: (99 :: Z) := by rw [h]; simp
    have h4 : ct.data.toList = (A ++ [98, 32] ++ txtN t ++ [32]) ++ 99 :: Z := by rw [h]; simp
    refine ends_space ct _ _ 99 _ h3 rfl (by decide) (by decide) r ?_
    refine ends_letter ct _ _ 99 _ h4 (by simp [St.text]; omega) (by decide) r ?_
    have e : (A ++ ([98, 32] ++ txtN t ++ [32, 99])).length = (A ++ [98, 32] ++ txtN t).length + 1 + 1 := by simp; omega
    rw [e] at hr
    exact hr
  by_cases ht : t = .x
  · subst ht
    refine ⟨s.f, [], ?_, ?_, ?_⟩
    · intro r hr
      refine hstart r ?_
      have h5 : ct.data.toList = (A ++ [98, 32]) ++ 120 :: ([32, 99] ++ Z) := by rw [h]; simp [txtN]
      refine ends_letter ct _ _ 120 _ h5 (by show s.k + 1 + 1 = _; rw [hk]; simp) (by decide) r ?_
      have := hend s.f s.ps s.os r (by simpa using hr)
      have e : (A ++ [98, 32] ++ txtN Nst.x).length = s.k + 1 + 1 + 1 := by rw [hk]; simp [txtN]
      rw [e] at this
      exact this
    · rw [hf, hk]; simp
    · rw [List.nil_append]
      unfold skipPs
      rw [if_pos (by rw [hf, hk]; simp)]
      show [textPt _] = [textPt bxc]
      have e : (A ++ ([98, 32] ++ txtN Nst.x ++ [32, 99])).length - s.f = 5 := by rw [hf, hk]; simp [txtN]
      rw [e, hf, hk, h]
      simp [txtN, bxc]
  · have hsk : skipPs ct s.f (s.k + 1 + 1) = [textPt [98, 32]] := by
      unfold skipPs
      rw [if_pos (by omega), hf, hk, show A.length + 1 + 1 - A.length = 2 by omega, h]
      simp
    refine ⟨(A ++ [98, 32] ++ txtN t).length, textPt [98, 32] :: qN t, ?_, by simp <;> omega, ?_⟩
    · intro r hr
      refine hstart r ?_
      refine ih ht ct (A ++ [98, 32]) ([32, 99] ++ Z) ((s.text 1).text 1) (by rw [h]; simp) ?_ ?_ (by show s.k + 1 + 1 = _; rw [hk]; simp) (by show s.f ≤ s.k + 1 + 1; omega) ho r ?_
      · exact side_space ct (A ++ [98]) (txtN t ++ [32, 99] ++ Z) _ (by rw [h]; simp) (by simp; omega)
      · exact side_space ct (A ++ [98, 32] ++ txtN t) (99 :: Z) _ (by rw [h]; simp) rfl
      · show Ends ct ⟨_, _, (s.ps ++ skipPs ct s.f (s.k + 1 + 1)) ++ qN t, s.os⟩ r
        rw [hsk]
        have := hend (A ++ [98, 32] ++ txtN t).length (s.ps ++ textPt [98, 32] :: qN t) s.os r hr
        simpa using this
    · unfold skipPs
      rw [if_pos (by simp <;> omega)]
      have e : (ct.data.toList.drop (A ++ [98, 32] ++ txtN t).length).take ((A ++ ([98, 32] ++ txtN t ++ [32, 99])).length - (A ++ [98, 32] ++ txtN t).length) = [32, 99] := by
        have hl2 : (A ++ ([98, 32] ++ txtN t ++ [32, 99])).length = (A ++ [98, 32] ++ txtN t).length + 2 := by simp <;> omega
        rw [show ct.data.toList = (A ++ [98, 32] ++ txtN t) ++ ([32, 99] ++ Z) by rw [h]; simp, List.drop_left' rfl, hl2, Nat.add_sub_cancel_left]
        rfl
      rw [e]
      cases t with
      | x => exact absurd rfl ht
      | _ => rfl
end Go.Proofs.YtlojgpkajkedeaaGreatDoor
/- Texts put within one another: plain: runs, brackets; what the whole is. -/
namespace Go.Proofs.YtlojgpkajkedeaaGreatDoor
open Go.RowKit

theorem cnt_rep (m : UInt8) (n : Nat) (Z : List UInt8) (h : Z.head? ≠ some m) : S.cnt m (List.replicate n m ++ Z) = n := by
  induction n with
  | zero => cases Z with
    | nil => rfl
    | cons z Z => simp at h; simp [S.cnt, h]
  | succ n ih => rw [List.replicate_succ, List.cons_append]; simp [S.cnt, ih]
theorem same_rep (m : UInt8) (n : Nat) (hn : 0 < n) (Z : List UInt8) (h : Z.head? ≠ some m) : S.same (List.replicate n m ++ Z) = n := by
  have := cnt_rep m n Z h
  obtain ⟨k, rfl⟩ : ∃ k, n = k + 1 := ⟨n - 1, by omega⟩
  rw [List.replicate_succ, List.cons_append] at this ⊢
  exact this
/-- A run of marks is laid. -/
theorem ends_run (ct : ByteArray) (A Z : List UInt8) (m : UInt8) (n : Nat) (hn : 0 < n) (hm : m = 42 ∨ m = 95) (s : St) (h : ct.data.toList = A ++ List.replicate n m ++ Z) (hk : s.k = A.length) (hz : Z.head? ≠ some m) (r : List Pt) (hr : Ends ct (s.lay ct (runPt ct s.k n) n) r) : Ends ct s r := by
  obtain ⟨k, hkn⟩ : ∃ k, n = k + 1 := ⟨n - 1, by omega⟩
  have h1 : ct.data.toList = A ++ m :: (List.replicate k m ++ Z) := by rw [h, hkn, List.replicate_succ]; simp
  obtain ⟨hlt, hbk, hdr⟩ := at_split ct A _ m s.k h1 hk
  refine .go s r hlt ?_
  have hs : S.same (ct.data.toList.drop s.k) = n := by
    rw [hdr, show m :: (List.replicate k m ++ Z) = List.replicate n m ++ Z by rw [hkn, List.replicate_succ]; rfl]
    exact same_rep m n hn Z hz
  rw [step_run ct s hlt (by rw [hbk]; exact hm), hs]
  exact hr
theorem run_text (ct : ByteArray) (A Z : List UInt8) (m : UInt8) (n k : Nat) (h : ct.data.toList = A ++ List.replicate n m ++ Z) (hk : k = A.length) : (ct.data.toList.drop k).take n = List.replicate n m := by
  rw [h, hk, List.append_assoc, List.drop_left' rfl, List.take_left' (by simp)]
theorem run_head (ct : ByteArray) (A Z : List UInt8) (m : UInt8) (n k : Nat) (hn : 0 < n) (h : ct.data.toList = A ++ List.replicate n m ++ Z) (hk : k = A.length) : ct.data.toList[k]? = some m := by
  obtain ⟨j, hj⟩ : ∃ j, n = j + 1 := ⟨n - 1, by omega⟩
  rw [h, hk, hj, List.replicate_succ, List.append_assoc, List.getElem?_append_right (Nat.le_refl _), Nat.sub_self]; rfl
theorem run_opens (ct : ByteArray) (A Z : List UInt8) (m : UInt8) (n k : Nat) (h : ct.data.toList = A ++ List.replicate n m ++ Z) (hk : k = A.length) (hb : S.side ct.data.toList ((k : Int) - 1) = 0) (ha : S.side ct.data.toList ((k + n : Nat) : Int) = 2) : runPt ct k n = runO m n := by
  unfold runPt runO
  rw [run_text ct A Z m n k h hk]
  have h1 : S.runOpens ct.data.toList k n = true := by
    unfold S.runOpens; rw [hb, ha]; split <;> rfl
  have h2 : S.runCloses ct.data.toList k n = false := by
    unfold S.runCloses; rw [hb, ha]; split <;> rfl
  rw [h1, h2]
theorem run_closes (ct : ByteArray) (A Z : List UInt8) (m : UInt8) (n k : Nat) (h : ct.data.toList = A ++ List.replicate n m ++ Z) (hk : k = A.length) (hb : S.side ct.data.toList ((k : Int) - 1) = 2) (ha : S.side ct.data.toList ((k + n : Nat) : Int) = 0) : runPt ct k n = runC m n := by
  unfold runPt runC
  rw [run_text ct A Z m n k h hk]
  have h1 : S.runOpens ct.data.toList k n = false := by
    unfold S.runOpens; rw [hb, ha]; split <;> rfl
  have h2 : S.runCloses ct.data.toList k n = true := by
    unfold S.runCloses; rw [hb, ha]; split <;> rfl
  rw [h1, h2]
theorem side_mark (ct : ByteArray) (A Z : List UInt8) (m : UInt8) (hm : m = 42 ∨ m = 95) (h : ct.data.toList = A ++ Z) (hs : S.side ct.data.toList ((A.length : Nat) : Int) = 0) : Z.head? ≠ some m := by
  intro e
  cases Z with
  | nil => simp at e
  | cons z Z =>
    simp at e; subst e
    obtain ⟨hlt, hbk, _⟩ := at_split ct A Z z A.length h rfl
    unfold S.side at hs
    rw [if_neg (by rw [S.length_data]; omega)] at hs
    have : ct.data.toList[((A.length : Nat) : Int).toNat]? = some z := by rw [Int.toNat_natCast, S.get_data ct _ hlt, hbk]
    rw [this] at hs
    rcases hm with rfl | rfl <;> exact absurd hs (by decide)

theorem mark_run (n : Nat) (hn : 0 < n) (m : UInt8) (hm : m = 42 ∨ m = 95) (t : Nst) (hw : wfN t) (ih : t ≠ .x → RunN t) (ct : ByteArray) (A Z : List UInt8) (s : St) (h : ct.data.toList = A ++ (List.replicate n m ++ ([98, 32] ++ txtN t ++ [32, 99]) ++ List.replicate n m) ++ Z) (hb : S.side ct.data.toList ((A.length : Int) - 1) = 0)
    (ha : S.side ct.data.toList (((A ++ (List.replicate n m ++ ([98, 32] ++ txtN t ++ [32, 99]) ++ List.replicate n m)).length : Nat) : Int) = 0) (hk : s.k = A.length) (ho : hasL t = true → ∀ o ∈ s.os, o.image = true) (r : List Pt)
    (hr : Ends ct ⟨(A ++ (List.replicate n m ++ ([98, 32] ++ txtN t ++ [32, 99]) ++ List.replicate n m)).length, (A ++ (List.replicate n m ++ ([98, 32] ++ txtN t ++ [32, 99]) ++ List.replicate n m)).length, (s.ps ++ skipPs ct s.f s.k) ++ (runO m n :: (qI t ++ [runC m n])), s.os⟩ r) : Ends ct s r := by
  obtain ⟨I, hI⟩ : ∃ I, [98, 32] ++ txtN t ++ [32, 99] = I := ⟨_, rfl⟩
  have hIf : I = 98 :: (32 :: (txtN t ++ [32, 99])) := by rw [← hI]; simp
  have hIl : I = ([98, 32] ++ txtN t ++ [32]) ++ [99] := by rw [← hI]; simp
  have hin := inner_run t hw ih ct (A ++ List.replicate n m) (List.replicate n m ++ Z)
  rw [hI] at h ha hr hin
  have hm98 : (98 : UInt8) ≠ m := by rcases hm with rfl | rfl <;> decide
  have h1 : ct.data.toList = A ++ List.replicate n m ++ (I ++ List.replicate n m ++ Z) := by rw [h]; simp
  refine ends_run ct A _ m n hn hm s h1 hk (by rw [hIf]; simp [hm98]) r ?_
  have ho1 : runPt ct s.k n = runO m n := by
    refine run_opens ct A _ m n s.k h1 hk (by rw [hk]; exact hb) ?_
    exact side_letter ct (A ++ List.replicate n m) (32 :: (txtN t ++ [32, 99]) ++ List.replicate n m ++ Z) 98 _ (by rw [h, hIf]; simp) (by rw [hk]; simp) (by decide)
  rw [ho1]
  obtain ⟨f', R, q1, q2, q3⟩ := hin (s.lay ct (runO m n) n) (by rw [h]; simp) (by show s.k + n = _; rw [hk]; simp) rfl ho
  refine q1 r ?_
  have h2 : ct.data.toList = (A ++ List.replicate n m ++ I) ++ List.replicate n m ++ Z := by rw [h]; simp
  have hend : (A ++ (List.replicate n m ++ I ++ List.replicate n m)).length = (A ++ List.replicate n m ++ I).length + n := by simp; omega
  rw [hend] at ha hr
  refine ends_run ct (A ++ List.replicate n m ++ I) Z m n hn hm _ h2 rfl ?_ r ?_
  · refine side_mark ct (A ++ List.replicate n m ++ I ++ List.replicate n m) Z m hm (by rw [h]; simp) ?_
    rw [show (A ++ List.replicate n m ++ I ++ List.replicate n m).length = (A ++ List.replicate n m ++ I).length + n by simp <;> omega]
    exact ha
  · have hc1 : runPt ct (A ++ List.replicate n m ++ I).length n = runC m n := by
      refine run_closes ct _ Z m n _ h2 rfl ?_ ha
      exact side_letter ct (A ++ List.replicate n m ++ ([98, 32] ++ txtN t ++ [32])) (List.replicate n m ++ Z) 99 _ (by rw [h, hIl]; simp) (by rw [hIl]; simp; omega) (by decide)
    show Ends ct (St.lay ct ⟨f', (A ++ List.replicate n m ++ I).length, (s.lay ct (runO m n) n).ps ++ R, s.os⟩ (runPt ct (A ++ List.replicate n m ++ I).length n) n) r
    rw [hc1]
    have e : St.lay ct ⟨f', (A ++ List.replicate n m ++ I).length, (s.lay ct (runO m n) n).ps ++ R, s.os⟩ (runC m n) n = ⟨(A ++ List.replicate n m ++ I).length + n, (A ++ List.replicate n m ++ I).length + n, (s.ps ++ skipPs ct s.f s.k) ++ (runO m n :: (qI t ++ [runC m n])), s.os⟩ := by
      rw [← q3]
      simp [St.lay]
    rw [e]
    exact hr
theorem kill_images (os : List Opn) (h : ∀ o ∈ os, o.image = true) : os.map Opn.kill = os := by
  conv => rhs; rw [← List.map_id os]
  apply List.map_congr_left
  intro o ho
  have := h o ho
  obtain ⟨j, i, d⟩ := o
  have hi : i = true := this
  subst hi
  show (⟨j, true, d || !true⟩ : Opn) = ⟨j, true, d⟩
  simp
/-- A bracket opens; its ] makes a part of what stands between. -/
theorem bracket_run (B : List UInt8) (im : Bool) (hB : (B = [91] ∧ im = false) ∨ (B = [33, 91] ∧ im = true)) (X : List UInt8) (hX : ∀ Y, S.addrOk (40 :: (X ++ 41 :: Y)) = true ∧ S.addrOf (40 :: (X ++ 41 :: Y)) = X)
    (t : Nst) (hw : wfN t) (ih : t ≠ .x → RunN t) (ct : ByteArray) (A Z : List UInt8) (s : St) (h : ct.data.toList = A ++ (B ++ ([98, 32] ++ txtN t ++ [32, 99]) ++ (93 :: 40 :: (X ++ [41]))) ++ Z) (hk : s.k = A.length)
    (hos : im = false → hasL t = false ∧ ∀ o ∈ s.os, o.image = true) (ho : hasL t = true → ∀ o ∈ s.os, o.image = true) (r : List Pt)
    (hr : Ends ct ⟨(A ++ (B ++ ([98, 32] ++ txtN t ++ [32, 99]) ++ (93 :: 40 :: (X ++ [41])))).length, (A ++ (B ++ ([98, 32] ++ txtN t ++ [32, 99]) ++ (93 :: 40 :: (X ++ [41])))).length, (s.ps ++ skipPs ct s.f s.k) ++ [closePt X im (qI t)], s.os⟩ r) : Ends ct s r := by
  obtain ⟨I, hI⟩ : ∃ I, [98, 32] ++ txtN t ++ [32, 99] = I := ⟨_, rfl⟩
  have hin := inner_run t hw ih ct (A ++ B) ((93 :: 40 :: (X ++ [41])) ++ Z)
  rw [hI] at h hr hin
  -- the opening
  have hopen : ∀ r, Ends ct (s.open ct B im) r → Ends ct s r := by
    intro r hr
    rcases hB with ⟨rfl, rfl⟩ | ⟨rfl, rfl⟩
    · have h1 : ct.data.toList = A ++ 91 :: (I ++ (93 :: 40 :: (X ++ [41])) ++ Z) := by rw [h]; simp
      obtain ⟨hlt, hbk, hdr⟩ := at_split ct A _ 91 s.k h1 hk
      refine .go s r hlt ?_
      have hbr : s.bracket ct = (true, s.open ct [91] false) := by
        unfold St.bracket
        rw [hdr, if_neg (by simp [Lib.hasPrefix]), if_pos (by simp [Lib.hasPrefix])]
      rw [step_br ct s hlt (.inr (.inl hbk)), hbr]
      exact hr
    · have h1 : ct.data.toList = A ++ 33 :: (91 :: (I ++ (93 :: 40 :: (X ++ [41])) ++ Z)) := by rw [h]; simp
      obtain ⟨hlt, hbk, hdr⟩ := at_split ct A _ 33 s.k h1 hk
      refine .go s r hlt ?_
      have hbr : s.bracket ct = (true, s.open ct [33, 91] true) := by
        unfold St.bracket
        rw [hdr, if_neg (by simp [Lib.hasPrefix]), if_neg (by simp [Lib.hasPrefix]), if_pos (by simp [Lib.hasPrefix])]
      rw [step_br ct s hlt (.inl hbk), hbr]
      exact hr
  refine hopen r ?_
  obtain ⟨f', R, q1, q2, q3⟩ := hin (s.open ct B im) (by rw [h]; simp) (by show s.k + B.length = _; rw [hk]; simp) rfl (fun hl o hom => by
    show o.image = true
    have hom : o ∈ s.os ++ [⟨(s.ps ++ skipPs ct s.f s.k).length, im, false⟩] := hom
    rcases List.mem_append.1 hom with hom | hom
    · exact ho hl o hom
    · simp at hom; subst hom
      cases im with
      | true => rfl
      | false => rw [(hos rfl).1] at hl; cases hl)
  refine q1 r ?_
  -- the close
  obtain ⟨K, hK⟩ : ∃ K, (A ++ B ++ I).length = K := ⟨_, rfl⟩
  rw [hK] at q2 q3 ⊢
  have h2 : ct.data.toList = (A ++ B ++ I) ++ 93 :: (40 :: (X ++ [41]) ++ Z) := by rw [h]; simp
  obtain ⟨hlt, hbk, hdr⟩ := at_split ct (A ++ B ++ I) _ 93 K h2 hK.symm
  obtain ⟨s2, hs2⟩ : ∃ s2 : St, s2 = ⟨f', K, (s.open ct B im).ps ++ R, (s.open ct B im).os⟩ := ⟨_, rfl⟩
  rw [← hs2]
  have hdr1 : ct.data.toList.drop (K + 1) = 40 :: (X ++ 41 :: Z) := by rw [← List.drop_drop, hdr]; simp
  have hcl : s2.close ct = (true, ⟨K + (3 + X.length), K + (3 + X.length), (s.ps ++ skipPs ct s.f s.k) ++ [closePt X im (qI t)], s.os⟩) := by
    have hlast : s2.os.getLast? = some ⟨(s.ps ++ skipPs ct s.f s.k).length, im, false⟩ := by
      rw [hs2]; show (s.os ++ [_]).getLast? = _; simp
    have hdl : s2.os.dropLast = s.os := by rw [hs2]; show (s.os ++ [_]).dropLast = _; simp
    have hk2 : s2.k = K := by rw [hs2]
    have hf2 : s2.f = f' := by rw [hs2]
    have hps2 : s2.ps = (s.ps ++ skipPs ct s.f s.k) ++ (textPt B :: R) := by
      rw [hs2]; show ((s.ps ++ skipPs ct s.f s.k) ++ [textPt B]) ++ R = _; simp
    unfold St.close
    rw [hlast]
    dsimp only
    rw [hk2, hdr1, (hX Z).1, (hX Z).2, if_pos ⟨rfl, rfl⟩, hps2, hdl, hf2, List.take_left' rfl]
    have hdrop : ((s.ps ++ skipPs ct s.f s.k) ++ (textPt B :: R)).drop ((s.ps ++ skipPs ct s.f s.k).length + 1) = R := by
      rw [← List.drop_drop, List.drop_left' rfl]; rfl
    rw [hdrop, q3]
    have hos' : (if im = true then s.os else s.os.map Opn.kill) = s.os := by
      cases im with
      | true => rfl
      | false => rw [if_neg (by simp), kill_images _ (hos rfl).2]
    rw [hos']
  refine .go s2 r (by rw [hs2]; exact hlt) ?_
  have hbr : s2.bracket ct = s2.close ct := by
    unfold St.bracket
    rw [show ct.data.toList.drop s2.k = ct.data.toList.drop K by rw [hs2], hdr, if_pos (by simp [Lib.hasPrefix])]
  have hbk2 : ct[s2.k]'(by rw [hs2]; exact hlt) = 93 := by subst hs2; exact hbk
  rw [step_br ct s2 (by rw [hs2]; exact hlt) (.inr (.inr hbk2)), hbr, hcl]
  have hend : (A ++ (B ++ I ++ (93 :: 40 :: (X ++ [41])))).length = K + (3 + X.length) := by rw [← hK]; simp <;> omega
  rw [hend] at hr
  exact hr
theorem addr_uv (Y : List UInt8) : S.addrOk (40 :: (addrN ++ 41 :: Y)) = true ∧ S.addrOf (40 :: (addrN ++ 41 :: Y)) = addrN := ⟨rfl, rfl⟩
theorem addr_none (Y : List UInt8) : S.addrOk (40 :: (([] : List UInt8) ++ 41 :: Y)) = true ∧ S.addrOf (40 :: (([] : List UInt8) ++ 41 :: Y)) = [] := ⟨rfl, rfl⟩

/-- Every text so made is cut as it was put. -/
theorem run_all (t : Nst) (hw : wfN t) : t ≠ .x → RunN t := by
  induction t with
  | x => intro h; exact absurd rfl h
  | em m t ih =>
    intro _ ct A Z s h hb ha hk hf ho r hr
    rw [qN_em] at hr
    exact mark_run 1 (by omega) m hw.1 t hw.2 (ih hw.2) ct A Z s h hb ha hk ho r hr
  | st m t ih =>
    intro _ ct A Z s h hb ha hk hf ho r hr
    rw [qN_st] at hr
    exact mark_run 2 (by omega) m hw.1 t hw.2 (ih hw.2) ct A Z s h hb ha hk ho r hr
  | li t ih =>
    intro _ ct A Z s h hb ha hk hf ho r hr
    rw [qN_li] at hr
    exact bracket_run [91] false (.inl ⟨rfl, rfl⟩) addrN addr_uv t hw.2 (ih hw.2) ct A Z s h hk (fun _ => ⟨hw.1, ho rfl⟩) (fun hl => by rw [hw.1] at hl; cases hl) r hr
  | im t ih =>
    intro _ ct A Z s h hb ha hk hf ho r hr
    rw [qN_im] at hr
    exact bracket_run [33, 91] true (.inr ⟨rfl, rfl⟩) [] addr_none t hw (ih hw) ct A Z s h hk (fun h => by cases h) ho r hr
/-- What stands within such a text: the one part that it is. -/
theorem nest_cont (t : Nst) (hw : wfN t) (hx : t ≠ .x) : contT (txtN t) = [partN t] := by
  obtain ⟨ct, hct⟩ : ∃ ct, S.B (txtN t) = ct := ⟨_, rfl⟩
  have hd : ct.data.toList = [] ++ txtN t ++ [] := by rw [← hct, S.data_B]; simp
  have hsz : ct.size = (txtN t).length := by rw [← hct, S.size_B]
  have hE : Ends ct start0 (qN t) := by
    refine run_all t hw hx ct [] [] start0 hd ?_ ?_ rfl (Nat.le_refl _) (fun _ o ho => by simp [start0] at ho) _ ?_
    · unfold S.side; rw [if_pos (by left; decide)]
    · unfold S.side
      rw [if_pos (by right; rw [S.length_data, hsz]; simp)]
    · have he : ([] ++ txtN t : List UInt8).length = ct.size := by rw [hsz]; rfl
      rw [he]
      have hsk : skipPs ct start0.f start0.k = [] := by unfold skipPs; rw [if_neg (by decide)]
      rw [hsk]
      have hdone := Ends.done (ct := ct) ⟨ct.size, ct.size, (start0.ps ++ []) ++ qN t, start0.os⟩ rfl
      have hps : (St.skip ct ⟨ct.size, ct.size, (start0.ps ++ []) ++ qN t, start0.os⟩ 0).ps = qN t := by
        show ((start0.ps ++ []) ++ qN t) ++ skipPs ct ct.size ct.size = qN t
        unfold skipPs; rw [if_neg (by omega)]; simp [start0]
      rw [hps] at hdone
      exact hdone
  rw [contT_eq _ _ (by rw [hct]; exact hE), settle_qN, join_dN t hx]
end Go.Proofs.YtlojgpkajkedeaaGreatDoor
/- Texts put within one another: their nodes. -/
namespace Go.Proofs.YtlojgpkajkedeaaGreatDoor
open Go.RowKit

theorem S.rule_other (c x : UInt8) (t : List UInt8) (hc : c ≠ 32) (hx : x ∈ c :: t) (h1 : x ≠ c) (h2 : x ≠ 32) : S.isRule (c :: t) = false := by
  unfold S.isRule
  rw [S.shallow_cons c t hc]
  have := S.count_lt (c :: t) c 32 x hx h1 h2 hc
  simp only []
  rw [decide_eq_false (show ¬ (c :: t).count c + (c :: t).count 32 = (c :: t).length by omega)]
  simp
theorem txtN_no (t : Nst) (h : wfN t) : 10 ∉ txtN t := by
  induction t with
  | x => decide
  | em m t ih =>
    have hm : (10 : UInt8) ≠ m := by rcases h.1 with rfl | rfl <;> decide
    simp [txtN, ih h.2, hm]
  | st m t ih =>
    have hm : (10 : UInt8) ≠ m := by rcases h.1 with rfl | rfl <;> decide
    simp [txtN, ih h.2, hm]
  | li t ih => simp [txtN, ih h.2]
  | im t ih => simp [txtN, ih h]
/-- The first sign, and that it is no item's. -/
theorem txtN_shape (t : Nst) (h : wfN t) : ∃ c r, txtN t = c :: r ∧ c ≠ 32 ∧ c ≠ 35 ∧ c ≠ 96 ∧ c ≠ 126 ∧ c ≠ 62 ∧ S.isRule (txtN t) = false ∧ (S.item (txtN t)).ok = false ∧ ∃ l y, txtN t = l ++ [y] ∧ y ≠ 32 := by
  have hitem : ∀ (c : UInt8) (r : List UInt8), c ≠ 32 → S.isDig c = false → c ∉ S.markEnds 0 → (S.item (c :: r)).ok = false := by
    intro c r h1 h2 h3
    have hd : S.digs (c :: r) = 0 := by simp [S.digs, h2]
    rw [S.item_no _ (.inl (by rw [S.shallow_cons c r h1]; exact S.markerSize_no _ c (by rw [hd]; rfl) (by rw [hd]; exact h3)))]
  have hstar : ∀ (y : UInt8) (r : List UInt8), y ≠ 32 → (S.item (42 :: y :: r)).ok = false := by
    intro y r hy
    have hd : S.digs (42 :: y :: r) = 0 := by simp [S.digs, S.isDig]
    have hm : S.markerSize (42 :: y :: r) = 1 := by
      rw [S.markerSize_yes _ 42 (by rw [hd]; omega) (by rw [hd]; rfl) (by rw [hd]; decide), hd]
    rw [S.item_no _ (.inr (by rw [S.shallow_cons 42 _ (by decide), hm]; simp [S.endsWord, hy]))]
  cases t with
  | x => exact ⟨120, [], rfl, by decide, by decide, by decide, by decide, by decide, rfl, rfl, [], 120, rfl, by decide⟩
  | em m t =>
    have hm := h.1
    refine ⟨m, ([98, 32] ++ txtN t ++ [32, 99]) ++ [m], by simp [txtN], ?_, ?_, ?_, ?_, ?_, ?_, ?_, List.replicate 1 m ++ ([98, 32] ++ txtN t ++ [32, 99]), m, by simp [txtN], ?_⟩
    · rcases hm with rfl | rfl <;> decide
    · rcases hm with rfl | rfl <;> decide
    · rcases hm with rfl | rfl <;> decide
    · rcases hm with rfl | rfl <;> decide
    · rcases hm with rfl | rfl <;> decide
    · rw [show txtN (.em m t) = m :: (([98, 32] ++ txtN t ++ [32, 99]) ++ [m]) by simp [txtN]]
      exact S.rule_other m 98 _ (by rcases hm with rfl | rfl <;> decide) (by simp) (by rcases hm with rfl | rfl <;> decide) (by decide)
    · rw [show txtN (.em m t) = m :: (98 :: (32 :: (txtN t ++ [32, 99]) ++ [m])) by simp [txtN]]
      rcases hm with rfl | rfl
      · exact hstar 98 _ (by decide)
      · exact hitem 95 _ (by decide) (by decide) (by decide)
    · rcases hm with rfl | rfl <;> decide
  | st m t =>
    have hm := h.1
    refine ⟨m, m :: (([98, 32] ++ txtN t ++ [32, 99]) ++ [m, m]), by simp [txtN], ?_, ?_, ?_, ?_, ?_, ?_, ?_, List.replicate 2 m ++ ([98, 32] ++ txtN t ++ [32, 99]) ++ [m], m, by simp [txtN], ?_⟩
    · rcases hm with rfl | rfl <;> decide
    · rcases hm with rfl | rfl <;> decide
    · rcases hm with rfl | rfl <;> decide
    · rcases hm with rfl | rfl <;> decide
    · rcases hm with rfl | rfl <;> decide
    · rw [show txtN (.st m t) = m :: (m :: (([98, 32] ++ txtN t ++ [32, 99]) ++ [m, m])) by simp [txtN]]
      exact S.rule_other m 98 _ (by rcases hm with rfl | rfl <;> decide) (by simp) (by rcases hm with rfl | rfl <;> decide) (by decide)
    · rw [show txtN (.st m t) = m :: (m :: (([98, 32] ++ txtN t ++ [32, 99]) ++ [m, m])) by simp [txtN]]
      rcases hm with rfl | rfl
      · exact hstar 42 _ (by decide)
      · exact hitem 95 _ (by decide) (by decide) (by decide)
    · rcases hm with rfl | rfl <;> decide
  | li t =>
    refine ⟨91, ([98, 32] ++ txtN t ++ [32, 99]) ++ [93, 40, 117, 63, 118, 41], by simp [txtN], by decide, by decide, by decide, by decide, by decide, ?_, ?_, [91] ++ ([98, 32] ++ txtN t ++ [32, 99]) ++ [93, 40, 117, 63, 118], 41, by simp [txtN], by decide⟩
    · rw [show txtN (.li t) = 91 :: (([98, 32] ++ txtN t ++ [32, 99]) ++ [93, 40, 117, 63, 118, 41]) by simp [txtN]]
      exact S.rule_other 91 98 _ (by decide) (by simp) (by decide) (by decide)
    · rw [show txtN (.li t) = 91 :: (([98, 32] ++ txtN t ++ [32, 99]) ++ [93, 40, 117, 63, 118, 41]) by simp [txtN]]
      exact hitem 91 _ (by decide) (by decide) (by decide)
  | im t =>
    refine ⟨33, 91 :: (([98, 32] ++ txtN t ++ [32, 99]) ++ [93, 40, 41]), by simp [txtN], by decide, by decide, by decide, by decide, by decide, ?_, ?_, [33, 91] ++ ([98, 32] ++ txtN t ++ [32, 99]) ++ [93, 40], 41, by simp [txtN], by decide⟩
    · rw [show txtN (.im t) = 33 :: (91 :: (([98, 32] ++ txtN t ++ [32, 99]) ++ [93, 40, 41])) by simp [txtN]]
      exact S.rule_other 33 98 _ (by decide) (by simp) (by decide) (by decide)
    · rw [show txtN (.im t) = 33 :: (91 :: (([98, 32] ++ txtN t ++ [32, 99]) ++ [93, 40, 41])) by simp [txtN]]
      exact hitem 33 _ (by decide) (by decide) (by decide)
theorem nest_row (t : Nst) (h : wfN t) (d : Nat) : S.readRow (d + 1) [txtN t] = ([.mk 1 0 [] (txtN t) false []], false) := by
  obtain ⟨c, r, hc, h32, h35, h96, h126, h62, hru, hit, l, y, hl, hy⟩ := txtN_shape t h
  have hsh : S.shallow (txtN t) = c :: r := by rw [hc]; exact S.shallow_cons c r h32
  refine S.par_row (txtN t) d y l hl hy (by rw [hc]; exact S.indent_cons c r h32) hru ?_ ?_ ?_ hit
  · unfold S.titleLevel; rw [hsh]; simp [S.cnt, h35]
  · rw [S.fence_no _ c r hsh h96 h126]
  · unfold S.isQuoted Lib.hasPrefix; rw [hsh]
    show ((62 : UInt8) == c && List.isPrefixOf [] r) = false
    rw [beq_eq_false_iff_ne.2 (Ne.symm h62)]; rfl
theorem cont_x : contT [120] = [textPt [120]] := by
  rw [cont_fin [120] 3 (by kernel_rfl)]; kernel_rfl
theorem nest_parts (t : Nst) (h : wfN t) : contT (txtN t) = [partN t] := by
  by_cases hx : t = .x
  · subst hx; exact cont_x
  · exact nest_cont t h hx
/-- The nodes that the statement lays up, at depth 0. -/
noncomputable def ndN (t : Nst) : List Nd := ptsNds 0 [partN t]
theorem nest_nodes (t : Nst) (h : wfN t) : nodesOf (txtN t) = ⟨0, 1, 0, ⟨#[]⟩, ⟨#[]⟩⟩ :: (ndN t).map Nd.deep := by
  obtain ⟨c, r, hc, _⟩ := txtN_first t h
  unfold nodesOf
  rw [S.lines_whole (txtN t) (txtN_no t h) (by rw [hc]; simp), nest_row t h]
  simp only [flatL, flatB, contN]
  rw [if_pos (by simp), nest_parts t h]
  unfold ndN
  rw [← ptsNds_deep]
  simp only [ptsNds, List.append_nil]
  rfl
def bNd : Nd := ⟨1, 8, 0, ⟨#[]⟩, ⟨#[98, 32]⟩⟩
def cNd : Nd := ⟨1, 8, 0, ⟨#[]⟩, ⟨#[32, 99]⟩⟩
theorem nd_x : ndN .x = [⟨0, 8, 0, ⟨#[]⟩, ⟨#[120]⟩⟩] := rfl
/-- What is put around a letter; around what is no letter. -/
theorem nd_in (t : Nst) (h : t ≠ .x) : ptsNds 1 (joinT (dI t)) = bNd :: ((ndN t).map Nd.deep ++ [cNd]) := by
  rw [join_dI t h]
  have hh : ptNds 1 (headN t) = [bNd] := by cases t <;> rfl
  have hc : ptNds 1 (textPt [32, 99]) = [cNd] := rfl
  unfold ndN
  rw [← ptsNds_deep]
  simp only [ptsNds, hh, hc, List.append_nil]
  rfl
theorem nd_in_x : ptsNds 1 (joinT (dI .x)) = [⟨1, 8, 0, ⟨#[]⟩, S.B bxc⟩] := rfl
theorem nd_em (m : UInt8) (t : Nst) : ndN (.em m t) = ⟨0, 14, 0, ⟨#[]⟩, ⟨#[]⟩⟩ :: ptsNds 1 (joinT (dI t)) := by
  unfold ndN; simp only [ptsNds, List.append_nil, partN, ptNds_eq]; rfl
theorem nd_st (m : UInt8) (t : Nst) : ndN (.st m t) = ⟨0, 15, 0, ⟨#[]⟩, ⟨#[]⟩⟩ :: ptsNds 1 (joinT (dI t)) := by
  unfold ndN; simp only [ptsNds, List.append_nil, partN, ptNds_eq]; rfl
theorem nd_li (t : Nst) : ndN (.li t) = ⟨0, 12, 0, S.B addrN, ⟨#[]⟩⟩ :: ptsNds 1 (joinT (dI t)) := by
  unfold ndN; simp only [ptsNds, List.append_nil, partN, ptNds_eq]
  show _ :: ptsNds 1 (settleT (qI t)) = _
  rw [settle_qI]; rfl
theorem nd_im (t : Nst) : ndN (.im t) = ⟨0, 13, 0, ⟨#[]⟩, ⟨#[]⟩⟩ :: ptsNds 1 (joinT (dI t)) := by
  unfold ndN; simp only [ptsNds, List.append_nil, partN, ptNds_eq]
  show _ :: ptsNds 1 (settleT (qI t)) = _
  rw [settle_qI]; rfl
end Go.Proofs.YtlojgpkajkedeaaGreatDoor
