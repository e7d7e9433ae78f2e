import Derived.Test.YtlojgpkajkedeaaGreatDoorE24
import Derived.Test.YtlojgpkajkedeaaGreatDoorPB
import Derived.Lib.ItoaNum
import Derived.Lib.ItoaLen
/- How many bytes the parts of a content hold: plain. -/
namespace Go.Proofs.YtlojgpkajkedeaaGreatDoor
open Go.RowKit

/-- Parts, and the bytes of their texts and addresses, those within others counted in. -/
def wgP : Pt → Nat
  | .mk _ i t kids _ _ _ => 1 + i.length + t.length + wgL kids
  where
  wgL : List Pt → Nat
  | [] => 0
  | p :: r => wgP p + wgL r
abbrev wgL := wgP.wgL
theorem wgP_eq (p : Pt) : wgP p = 1 + p.info.length + p.text.length + wgL p.kids := by cases p; rfl
theorem wgL_nil : wgL [] = 0 := rfl
theorem wgL_cons (p : Pt) (r : List Pt) : wgL (p :: r) = wgP p + wgL r := rfl
theorem wgL_append (a b : List Pt) : wgL (a ++ b) = wgL a + wgL b := by
  induction a with
  | nil => simp [wgP.wgL]
  | cons p r ih => simp only [List.cons_append, wgL_cons, ih]; omega
theorem wgP_withText (p : Pt) (t : List UInt8) : wgP (p.withText t) + p.text.length = wgP p + t.length := by
  cases p with
  | mk k i t0 kids z a b => show 1 + i.length + t.length + wgL kids + t0.length = 1 + i.length + t0.length + wgL kids + t.length; omega
theorem wg_join (f : Nat) (l : List Pt) : wgL (joinF f l) ≤ wgL l := by
  induction f generalizing l with
  | zero => exact Nat.zero_le _
  | succ f ih =>
    cases l with
    | nil => exact Nat.le_refl _
    | cons p r =>
      simp only [joinF]
      split
      · split
        · have := ih r; rw [wgL_cons]; omega
        · cases r with
          | nil => exact Nat.le_refl _
          | cons q r' =>
            dsimp only
            split
            · have := ih (q.withText (p.text ++ q.text) :: r')
              have h2 := wgP_withText q (p.text ++ q.text)
              rw [List.length_append] at h2
              have h3 := wgP_eq p
              rw [wgL_cons] at this
              rw [wgL_cons, wgL_cons]; omega
            · have := ih (q :: r')
              rw [wgL_cons, wgL_cons]; omega
      · have := ih r; rw [wgL_cons, wgL_cons]; omega
theorem wg_close (f : Nat) (L : List Pt) (s : Pt) : wgL ((closeF f L s).1 ++ [(closeF f L s).2]) ≤ wgL (L ++ [s]) := by
  induction f generalizing L s with
  | zero => exact Nat.le_refl _
  | succ f ih =>
    simp only [closeF]
    split
    · rename_i hs
      cases ho : lastO s L with
      | none => exact Nat.le_refl _
      | some v =>
        obtain ⟨l1, x, m⟩ := v
        dsimp only
        refine Nat.le_trans (ih _ _) ?_
        obtain ⟨h1, h2⟩ := lastO_cut s L l1 x m ho
        subst h1
        have hx : x.text ≠ [] := by
          intro e; unfold opens at h2; rw [e] at h2; simp at h2
        have hxl : 0 < x.text.length := List.length_pos_iff.2 hx
        have hsl : 0 < s.text.length := List.length_pos_iff.2 hs.2
        have hz : 1 ≤ wsize x s := by unfold wsize; split <;> omega
        have hj := wg_join m.length m
        have hw : wgP (wrapPt (wsize x s) m) ≤ 1 + wgL m := by
          rw [wgP_eq]; show 1 + 0 + 0 + wgL (joinT m) ≤ _; unfold joinT; omega
        have hx2 := wgP_withText x (x.text.drop (wsize x s))
        have hs2 := wgP_withText s (s.text.drop (wsize x s))
        rw [List.length_drop] at hx2 hs2
        simp only [wgL_append, wgL_cons, wgL_nil]
        omega
    · exact Nat.le_refl _
theorem wg_pairF (L l : List Pt) : wgL (pairF L l) ≤ wgL (L ++ l) := by
  induction l generalizing L with
  | nil => simp [pairF]
  | cons s r ih =>
    simp only [pairF]
    refine Nat.le_trans (ih _) ?_
    have := wg_close s.text.length L s
    simp only [wgL_append, wgL_cons, wgL_nil] at this ⊢
    omega
theorem wg_settle (l : List Pt) : wgL (settleT l) ≤ wgL l := by
  unfold settleT joinT
  have h1 := wg_join (pairT l).length (pairT l)
  have h3 := wg_pairF [] l
  rw [List.nil_append] at h3
  unfold pairT at *
  omega
theorem wg_skip (ct : ByteArray) (f k : Nat) : wgL (skipPs ct f k) ≤ 2 * (k - f) := by
  unfold skipPs
  split
  · have : ((ct.data.toList.drop f).take (k - f)).length ≤ k - f := by rw [List.length_take]; omega
    rw [wgL_cons, wgL_nil]
    show 1 + 0 + ((ct.data.toList.drop f).take (k - f)).length + 0 + 0 ≤ _
    omega
  · exact Nat.zero_le _
/-- What every turn keeps. -/
def FitW (s : St) : Prop := wgL s.ps ≤ 3 * s.f ∧ s.f ≤ s.k
theorem FitW.text {s : St} (h : FitW s) (n : Nat) : FitW (s.text n) := ⟨h.1, by have := h.2; show s.f ≤ s.k + n; omega⟩
theorem FitW.skip {s : St} (h : FitW s) (ct : ByteArray) (n : Nat) : FitW (s.skip ct n) := by
  refine ⟨?_, Nat.le_refl _⟩
  have h1 := wg_skip ct s.f s.k
  have h2 := h.1
  have h3 := h.2
  show wgL (s.ps ++ skipPs ct s.f s.k) ≤ 3 * (s.k + n)
  rw [wgL_append]; omega
theorem FitW.lay {s : St} (h : FitW s) (ct : ByteArray) (p : Pt) (n : Nat) (hp : wgP p ≤ 3 * n) : FitW (s.lay ct p n) := by
  refine ⟨?_, Nat.le_refl _⟩
  have h1 := wg_skip ct s.f s.k
  have h2 := h.1
  have h3 := h.2
  show wgL ((s.ps ++ skipPs ct s.f s.k) ++ [p]) ≤ 3 * (s.k + n)
  rw [wgL_append, wgL_append, wgL_cons, wgL_nil]; omega
theorem wg_plain (k : Int) (i t : List UInt8) (z : Nat) (a b : Bool) : wgP (.mk k i t [] z a b) = 1 + i.length + t.length := rfl
theorem wg_take_drop (l : List Pt) (j : Nat) : wgL (l.take j) + wgL (l.drop (j + 1)) ≤ wgL l := by
  have h : wgL l = wgL (l.take j) + wgL (l.drop j) := by rw [← wgL_append, List.take_append_drop]
  rw [h]
  cases hd : l.drop j with
  | nil => rw [← List.drop_drop, hd]; simp [wgP.wgL]
  | cons p r => rw [← List.drop_drop, hd, wgL_cons]; show _ + wgL r ≤ _; omega
theorem FitW.open {s : St} (h : FitW s) (ct : ByteArray) (t : List UInt8) (im : Bool) (ht : 1 ≤ t.length) : FitW (s.open ct t im) := by
  have := FitW.lay h ct (textPt t) t.length (by unfold textPt; rw [wg_plain]; simp only [List.length_nil]; omega)
  exact this
theorem FitW.bracket {s : St} (h : FitW s) (ct : ByteArray) : FitW (s.bracket ct).2 := by
  unfold St.bracket
  split
  · unfold St.close
    split
    · exact h
    · rename_i o _
      split
      · refine ⟨?_, Nat.le_refl _⟩
        have h1 := wg_skip ct s.f s.k
        have h2 := h.1
        have h3 := h.2
        have h4 := wg_take_drop s.ps o.j
        have h5 := wg_settle (s.ps.drop (o.j + 1) ++ skipPs ct s.f s.k)
        rw [wgL_append] at h5
        show wgL (s.ps.take o.j ++ [closePt _ o.image (s.ps.drop (o.j + 1) ++ skipPs ct s.f s.k)]) ≤ 3 * (s.k + (3 + _))
        rw [wgL_append, wgL_cons, wgL_nil, wgP_eq]
        show wgL (s.ps.take o.j) + (1 + (S.addrOf (ct.data.toList.drop (s.k + 1))).length + 0 + wgL (settleT (s.ps.drop (o.j + 1) ++ skipPs ct s.f s.k)) + 0) ≤ 3 * (s.k + (3 + (S.addrOf (ct.data.toList.drop (s.k + 1))).length))
        omega
      · exact h
  · split
    · exact h.open ct _ _ (by decide)
    · split
      · exact h.open ct _ _ (by decide)
      · exact h
theorem FitW.step {s : St} (h : FitW s) (ct : ByteArray) (hk : s.k < ct.size) : FitW (step ct s) := by
  rw [step_at ct s hk]
  have hs := same_at ct s.k hk
  unfold stepB
  split
  · split
    · exact h.lay ct _ _ (by decide)
    · split
      · exact (h.skip ct 1).text 1
      · exact h.text 1
  · split
    · split
      · rename_i v hv
        have hb := S.spanAt_bound _ _ _ (by rw [List.length_drop, S.length_data]; omega) hv
        refine h.lay ct _ _ ?_
        unfold spanPt; rw [wg_plain]
        have := S.spanText_le ((ct.data.toList.drop (s.k + S.same (ct.data.toList.drop s.k))).take (v - S.same (ct.data.toList.drop s.k)))
        rw [List.length_take] at this
        show 1 + 0 + (S.spanText _).length ≤ _
        omega
      · exact h.text _
    · split
      · split
        · split
          · exact h.lay ct _ _ (by show 1 + 0 + 0 + 0 ≤ _; omega)
          · exact h.lay ct _ _ (by show 1 + 0 + 0 + 0 ≤ _; omega)
        · exact h.text _
      · split
        · exact h.lay ct _ _ (by decide)
        · split
          · split
            · refine h.lay ct _ _ ?_
              show 1 + List.length _ + 0 + (1 + 0 + List.length _ + 0 + 0) ≤ 3 * (List.length _ + _)
              omega
            · exact h.text 1
          · split
            · refine h.lay ct _ _ ?_
              unfold runPt; rw [wg_plain]
              show 1 + 0 + ((ct.data.toList.drop s.k).take _).length ≤ _
              rw [List.length_take]; omega
            · split
              · split
                · exact h.bracket ct
                · exact (h.bracket ct).text 1
              · exact h.text 1
theorem ends_fitW (ct : ByteArray) (s : St) (r : List Pt) (h : Ends ct s r) (hf : FitW s) : wgL r ≤ 3 * ct.size := by
  induction h with
  | done s h => rw [← h]; have := (hf.skip ct 0).1; exact this
  | go s r h hr ih => exact ih (hf.step ct h)
theorem contT_wg (c : List UInt8) : wgL (contT c) ≤ 3 * c.length := by
  by_cases hx : ∃ r, Ends (S.B c) start0 r
  · obtain ⟨r, h⟩ := hx
    rw [contT_eq c r h]
    have h1 := wg_settle r
    have h2 := ends_fitW _ _ _ h ⟨Nat.le_refl _, Nat.le_refl _⟩
    rw [S.size_B] at h2
    omega
  · unfold contT; rw [dif_neg hx]; exact Nat.zero_le _
end Go.Proofs.YtlojgpkajkedeaaGreatDoor
/- A page, plain. -/
namespace Go.Proofs.YtlojgpkajkedeaaGreatDoor
open Go.RowKit
namespace S
/-- The bytes ahead of the first space. -/
def word (l : List UInt8) : List UInt8 := (Lib.cut l [32]).1
end S

mutual
/-- Parts without their marks. -/
def ptPl : Pt → List UInt8
  | .mk k _ t kids _ _ _ => if k = 8 ∨ k = 11 then t else if k = 9 ∨ k = 10 then [32] else ptsPl kids
def ptsPl : List Pt → List UInt8
  | [] => []
  | p :: r => ptPl p ++ ptsPl r
end
theorem ptPl_eq (p : Pt) : ptPl p = if p.kind = 8 ∨ p.kind = 11 then p.text else if p.kind = 9 ∨ p.kind = 10 then [32] else ptsPl p.kids := by cases p; simp only [ptPl]; rfl
theorem ptsPl_append (a b : List Pt) : ptsPl (a ++ b) = ptsPl a ++ ptsPl b := by
  induction a with
  | nil => simp [ptsPl]
  | cons p r ih => simp only [List.cons_append, ptsPl, ih, List.append_assoc]
mutual
theorem ptPl_le : ∀ p : Pt, (ptPl p).length ≤ wgP p
  | .mk k i t kids _ _ _ => by
    have h := ptsPl_le kids
    simp only [ptPl]
    show _ ≤ 1 + i.length + t.length + wgL kids
    split
    · omega
    · split
      · simp only [List.length_singleton]; omega
      · omega
theorem ptsPl_le : ∀ l : List Pt, (ptsPl l).length ≤ wgL l
  | [] => by simp [ptsPl]
  | p :: r => by
    have h1 := ptPl_le p
    have h2 := ptsPl_le r
    simp only [ptsPl, List.length_append, wgL_cons]; omega
end
mutual
/-- Parts as a page bears them. -/
def ptHt : Pt → List UInt8
  | .mk k i t kids _ _ _ =>
    if k = 8 then S.escH t
    else if k = 9 then [10]
    else if k = 10 then [60, 98, 114, 62, 10]
    else if k = 11 then [60, 99, 111, 100, 101, 62] ++ S.escH t ++ [60, 47, 99, 111, 100, 101, 62]
    else if k = 12 then [60, 97, 32, 104, 114, 101, 102, 61, 34] ++ S.escH i ++ ([34, 62] ++ ptsHt kids ++ [60, 47, 97, 62])
    else if k = 13 then [60, 105, 109, 103, 32, 115, 114, 99, 61, 34] ++ S.escH i ++ [34, 32, 97, 108, 116, 61, 34] ++ S.escH (ptsPl kids) ++ [34, 62]
    else if k = 14 then [60, 101, 109, 62] ++ ptsHt kids ++ [60, 47, 101, 109, 62]
    else if k = 15 then [60, 115, 116, 114, 111, 110, 103, 62] ++ ptsHt kids ++ [60, 47, 115, 116, 114, 111, 110, 103, 62]
    else []
def ptsHt : List Pt → List UInt8
  | [] => []
  | p :: r => ptHt p ++ ptsHt r
end
theorem ptHt_eq (p : Pt) : ptHt p =
    if p.kind = 8 then S.escH p.text
    else if p.kind = 9 then [10]
    else if p.kind = 10 then [60, 98, 114, 62, 10]
    else if p.kind = 11 then [60, 99, 111, 100, 101, 62] ++ S.escH p.text ++ [60, 47, 99, 111, 100, 101, 62]
    else if p.kind = 12 then [60, 97, 32, 104, 114, 101, 102, 61, 34] ++ S.escH p.info ++ ([34, 62] ++ ptsHt p.kids ++ [60, 47, 97, 62])
    else if p.kind = 13 then [60, 105, 109, 103, 32, 115, 114, 99, 61, 34] ++ S.escH p.info ++ [34, 32, 97, 108, 116, 61, 34] ++ S.escH (ptsPl p.kids) ++ [34, 62]
    else if p.kind = 14 then [60, 101, 109, 62] ++ ptsHt p.kids ++ [60, 47, 101, 109, 62]
    else if p.kind = 15 then [60, 115, 116, 114, 111, 110, 103, 62] ++ ptsHt p.kids ++ [60, 47, 115, 116, 114, 111, 110, 103, 62]
    else [] := by cases p; simp only [ptHt]; rfl
theorem ptsHt_append (a b : List Pt) : ptsHt (a ++ b) = ptsHt a ++ ptsHt b := by
  induction a with
  | nil => simp [ptsHt]
  | cons p r ih => simp only [List.cons_append, ptsHt, ih, List.append_assoc]
mutual
theorem ptHt_le : ∀ p : Pt, (ptHt p).length ≤ 30 * wgP p
  | .mk k i t kids _ _ _ => by
    have h := ptsHt_le kids
    have h2 := S.escH_le t
    have h3 := S.escH_le i
    have h4 := S.escH_le (ptsPl kids)
    have h5 := ptsPl_le kids
    simp only [ptHt]
    show _ ≤ 30 * (1 + i.length + t.length + wgL kids)
    (repeat' split) <;> (try simp only [List.length_append, List.length_cons, List.length_nil]) <;> omega
theorem ptsHt_le : ∀ l : List Pt, (ptsHt l).length ≤ 30 * wgL l
  | [] => by simp [ptsHt]
  | p :: r => by
    have h1 := ptHt_le p
    have h2 := ptsHt_le r
    simp only [ptsHt, List.length_append, wgL_cons]; omega
end

/-- A content as a page bears it. -/
noncomputable def contH (c : List UInt8) : List UInt8 := ptsHt (contT c)
theorem contH_le (c : List UInt8) : (contH c).length ≤ 90 * c.length := by
  have h1 := ptsHt_le (contT c)
  have h2 := contT_wg c
  unfold contH; omega
/-- A list's name, and how it opens. -/
def listN (n : Int) : List UInt8 := if 0 ≤ n then [111, 108] else [117, 108]
def listO (n : Int) : List UInt8 := if 0 ≤ n ∧ n ≠ 1 then [32, 115, 116, 97, 114, 116, 61, 34] ++ Lib.itoa n ++ [34] else []
mutual
/-- Blocks as a page bears them: 'cont' tells a content. -/
def blkHt (cont : List UInt8 → List UInt8) (tight : Bool) : S.Blk → List UInt8
  | .at_ _ k n info text loose kids =>
    if k = 1 then (if tight = true then cont text ++ [10] else [60, 112, 62] ++ cont text ++ [60, 47, 112, 62, 10])
    else if k = 2 then [60, 104] ++ Lib.itoa n ++ [62] ++ cont text ++ ([60, 47, 104] ++ Lib.itoa n ++ [62, 10])
    else if k = 3 then [60, 112, 114, 101, 62, 60, 99, 111, 100, 101] ++ (if info = [] then [] else [32, 99, 108, 97, 115, 115, 61, 34] ++ S.escH (S.word info) ++ [34]) ++ [62] ++ S.escH text ++ [60, 47, 99, 111, 100, 101, 62, 60, 47, 112, 114, 101, 62, 10]
    else if k = 4 then [60, 104, 114, 62, 10]
    else if k = 5 then [60, 113, 117, 111, 116, 101, 62, 10] ++ blksHt cont false kids ++ [60, 47, 113, 117, 111, 116, 101, 62, 10]
    else if k = 6 then [60] ++ listN n ++ listO n ++ [62, 10] ++ itemsHt cont (!loose) kids ++ ([60, 47] ++ listN n ++ [62, 10])
    else []
def blksHt (cont : List UInt8 → List UInt8) (tight : Bool) : List S.Blk → List UInt8
  | [] => []
  | b :: r => blkHt cont tight b ++ blksHt cont tight r
def itemsHt (cont : List UInt8 → List UInt8) (tight : Bool) : List S.Blk → List UInt8
  | [] => []
  | b :: r => itemHt cont tight b ++ itemsHt cont tight r
def itemHt (cont : List UInt8 → List UInt8) (tight : Bool) : S.Blk → List UInt8
  | .at_ _ _ _ _ _ _ kids => [60, 108, 105, 62, 10] ++ blksHt cont tight kids ++ [60, 47, 108, 105, 62, 10]
end
theorem blksHt_append (cont : List UInt8 → List UInt8) (tight : Bool) (a b : List S.Blk) : blksHt cont tight (a ++ b) = blksHt cont tight a ++ blksHt cont tight b := by
  induction a with
  | nil => simp [blksHt]
  | cons p r ih => simp only [List.cons_append, blksHt, ih, List.append_assoc]
theorem itemsHt_append (cont : List UInt8 → List UInt8) (tight : Bool) (a b : List S.Blk) : itemsHt cont tight (a ++ b) = itemsHt cont tight a ++ itemsHt cont tight b := by
  induction a with
  | nil => simp [itemsHt]
  | cons p r ih => simp only [List.cons_append, itemsHt, ih, List.append_assoc]
end Go.Proofs.YtlojgpkajkedeaaGreatDoor
