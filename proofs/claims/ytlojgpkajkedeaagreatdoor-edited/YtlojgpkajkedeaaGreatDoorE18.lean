import Derived.Test.YtlojgpkajkedeaaGreatDoorE15
import Derived.ScopeJumps
/- close: what is taken out of the cutter's chain, and where it is laid. -/
namespace Go.Proofs.YtlojgpkajkedeaaGreatDoor
open Go.RowKit

theorem take_rest (C : Nat) (T : Nat) (cs : List Value) (P M : List Mem) (a : Mem) (w : World) (h : Ch w C 3 T cs (P ++ a :: M)) :
    Calls Tryz.prog 238 #[.pointer (some ⟨C, 3, none⟩), .pointer (some ⟨a.m, 0, none⟩), .pointer none] w fun e w' => e = .returned (.agg #[.pointer (hd M none), .pointer (lst M none)]) ∧ Ch w' C 3 T cs (P ++ [a]) ∧ Seg w' none M none ∧ Fr (C :: blks (P ++ a :: M)) w w' := by
  cases M with
  | nil =>
    have hs := h.seg
    rw [seg_append] at hs
    have ha := hs.2.cells
    refine (take_none C 3 a [] w (cell_blk ha 9 _ rfl) (h.mlt a.m (by simp [blks]))).mono ?_
    rintro e w' ⟨rfl, hb⟩
    refine ⟨rfl, h.move (fun x hx => hb.block x ?_), trivial, Fr.ofBelow hb⟩
    rcases List.mem_cons.1 hx with rfl | hx
    · exact h.lt
    · exact h.mlt x hx
  | cons m0 M => exact take_end C 3 T cs P M a m0 w h

theorem opnCells_head (P M : List Mem) (a : Mem) (os : List Opn) (h : ∀ x ∈ os, x.j < P.length) : opnCells (P ++ [a]) os = opnCells (P ++ a :: M) os := by
  rw [opnCells_append _ _ _ h, opnCells_append _ _ _ h]

theorem Cut.taken {C : Nat} {ct : ByteArray} {f k : Nat} {P M : List Mem} {a : Mem} {os : List Opn} {sa : Option Addr} {sc : Nat} {A : Nat → Prop} {w w' : World} (h : Cut C ct f k (P ++ a :: M) os sa sc A w) (hj : ∀ x ∈ os, x.j < P.length) (hc : Ch w' C 3 168 (cutCells ct f k (.slice sa os.length sc)) (P ++ [a])) (hf : Fr (C :: blks (P ++ a :: M)) w w') :
    Cut C ct f k (P ++ [a]) os sa sc A w' := by
  have hlt := h.own.lt
  have hsub : ∀ x ∈ blks (P ++ [a]), x ∈ blks (P ++ a :: M) := fun x hx => by
    rw [blks_mid] at hx ⊢
    simp [blks] at hx ⊢
    rcases hx with hx | hx
    · exact .inl hx
    · exact .inr (.inl hx)
  have hown : w'.ownsRow (C + 1) 253 3 (.slice sa os.length sc) os.length (opnCells (P ++ [a]) os) := by
    rw [opnCells_head P M a os hj]
    rcases h.own.2 with h2 | ⟨g, cap, cur, hv, hg, hh, r'⟩
    · exact ⟨h.own.1, .inl h2⟩
    · refine ⟨h.own.1, .inr ⟨g, cap, cur, hv, hg, ?_, r'⟩⟩
      have hgo : (Value.slice sa os.length sc).ownBlock = some g := by rw [hv]; rfl
      rw [hf.block g (hlt g hgo).2 (fun hm => by
        rcases List.mem_cons.1 hm with hm | hm
        · have := (hlt g hgo).1; omega
        · exact h.sep g hm hgo.symm)]
      exact hh
  have hmem : ∀ x ∈ P ++ [a], x ∈ P ++ a :: M := fun x hx => by
    rcases List.mem_append.1 hx with hx | hx
    · exact List.mem_append_left _ hx
    · simp at hx; subst hx; simp
  refine ⟨hc, ?_, ?_, hown, fun x hx => h.sep x (hsub x hx), fun x hx => h.above x (hsub x hx), fun x hx => by have := hj x hx; simp; omega, h.up, h.fk, h.kl, h.small, ?_, fun x hx => h.runs x (hmem x hx)⟩
  · intro e he
    exact (h.kids e (hmem e he)).move (fun x hx => hx) (fun x hx => hf.block x (h.dead x hx).1 (h.dead x hx).2.1)
  · intro x hx
    have hd := h.dead x hx
    exact ⟨Nat.lt_of_lt_of_le hd.1 hf.size, fun hm => hd.2.1 (by
      rcases List.mem_cons.1 hm with rfl | hm
      · exact List.mem_cons_self
      · exact List.mem_cons_of_mem _ (hsub x hm)), hd.2.2⟩
  · have hb := h.bytes
    rw [show P ++ a :: M = (P ++ [a]) ++ M by simp, List.map_append, txt_append] at hb
    omega

theorem Ch.set_last {w w' : World} {C T : Nat} {cs : List Value} {P : List Mem} {a a' : Mem} (h : Ch w C 3 T cs (P ++ [a])) (hm : a'.m = a.m) (hb : w'.heap[a.m]? = some (.cells (memCells a' (lst P none) none).toArray 179 (0, 0))) (ho : ∀ x, x ∈ C :: blks (P ++ [a]) → x ≠ a.m → w'.heap[x]? = w.heap[x]?) : Ch w' C 3 T cs (P ++ [a']) := by
  have hbl : blks (P ++ [a']) = blks (P ++ [a]) := by simp [blks, hm]
  have hs := (seg_append _ _ _ _ _).1 h.seg
  have hnd := h.nodup
  have had : a'.ad = a.ad := by simp [Mem.ad, hm]
  have hCa : C ≠ a.m := fun e => h.out (by rw [e]; simp [blks])
  have hPn : ∀ e ∈ P, e.m ≠ a.m := fun e he e1 => by
    rw [blks_append] at hnd
    exact (List.nodup_append.1 hnd).2.2 e.m (List.mem_map_of_mem he) a.m (by simp [blks]) e1
  refine ⟨(seg_append _ _ _ _ _).2 ⟨?_, ?_⟩, ?_, by rw [hbl]; exact hnd, by rw [hbl]; exact h.out⟩
  · have h1 : Seg w' none P (hd [a] none) := hs.1.move (fun e he => ho e.m (List.mem_cons_of_mem _ (by simp [blks]; exact .inl ⟨e, he, rfl⟩)) (hPn e he))
    have : hd [a'] none = hd [a] none := by simp [hd, had]
    rw [this]; exact h1
  · refine ⟨?_, trivial⟩
    rw [hm]; exact hb
  · have h1 := h.hdr.move (ho C List.mem_cons_self hCa)
    have e1 : hd (P ++ [a']) none = hd (P ++ [a]) none := by rw [hd_append, hd_append]; simp [hd, had]
    have e2 : lst (P ++ [a']) none = lst (P ++ [a]) none := by rw [lst_snoc, lst_snoc, had]
    rw [e1, e2]; exact h1

/-- The member that opened is made a link or an image. -/
theorem Cut.sealed {C : Nat} {ct : ByteArray} {f k : Nat} {P : List Mem} {a a' : Mem} {os : List Opn} {sa : Option Addr} {sc : Nat} {A A' : Nat → Prop} {w w' : World} (h : Cut C ct f k (P ++ [a]) os sa sc A w) (hj : ∀ x ∈ os, x.j < P.length) (hm : a'.m = a.m) (hf : Fr [a.m] w w') (hb : w'.heap[a.m]? = some (.cells (memCells a' (lst P none) none).toArray 179 (0, 0)))
    (hA : ∀ x, A x → A' x) (hA' : ∀ x, A' x → x < w.heap.size ∧ x ∉ C :: blks (P ++ [a]) ∧ some x ≠ (Value.slice sa os.length sc).ownBlock) (hk : KRep w A' a'.kf a'.p.kids) (ht : a'.p.text = []) (hr : a'.p.rs = 0) : Cut C ct f k (P ++ [a']) os sa sc A' w' := by
  have hbl : blks (P ++ [a']) = blks (P ++ [a]) := by simp [blks, hm]
  have hlt := h.own.lt
  have hin : a.m ∈ blks (P ++ [a]) := by simp [blks]
  have hown : w'.ownsRow (C + 1) 253 3 (.slice sa os.length sc) os.length (opnCells (P ++ [a']) os) := by
    rw [opnCells_append _ _ _ hj]
    have h0 := h.own
    rw [opnCells_append _ _ _ hj] at h0
    rcases h0.2 with h2 | ⟨g, cap, cur, hv, hg, hh, r'⟩
    · exact ⟨h0.1, .inl h2⟩
    · refine ⟨h0.1, .inr ⟨g, cap, cur, hv, hg, ?_, r'⟩⟩
      have hgo : (Value.slice sa os.length sc).ownBlock = some g := by rw [hv]; rfl
      rw [hf.block g (hlt g hgo).2 (fun hm => by
        simp at hm; rw [hm] at hgo
        exact h.sep a.m hin hgo.symm)]
      exact hh
  have hkeep : ∀ x, A' x → w'.heap[x]? = w.heap[x]? := fun x hx => hf.block x (hA' x hx).1 (fun hm => (hA' x hx).2.1 (by simp at hm; rw [hm]; exact List.mem_cons_of_mem _ hin))
  refine ⟨h.ch.set_last hm hb (fun x hx hne => hf.block x ?_ (by simpa using hne)), ?_, ?_, hown, by rw [hbl]; exact h.sep, by rw [hbl]; exact h.above, fun x hx => by have := hj x hx; simp; omega, h.up, h.fk, h.kl, h.small, ?_, ?_⟩
  · rcases List.mem_cons.1 hx with rfl | hx
    · exact h.lt
    · exact h.ch.mlt x hx
  · intro e he
    rcases List.mem_append.1 he with he | he
    · exact (h.kids e (List.mem_append_left _ he)).move hA (fun x hx => hkeep x (hA x hx))
    · simp at he; subst he
      exact hk.move (fun x hx => hx) hkeep
  · intro x hx
    have hd := hA' x hx
    rw [hbl]
    exact ⟨Nat.lt_of_lt_of_le hd.1 hf.size, hd.2⟩
  · have hb0 := h.bytes
    rw [List.map_append, txt_append] at hb0 ⊢
    simp [txt, ht] at hb0 ⊢
    omega
  · intro x hx
    rcases List.mem_append.1 hx with hx | hx
    · exact h.runs x (List.mem_append_left _ hx)
    · simp at hx; subst hx; omega
end Go.Proofs.YtlojgpkajkedeaaGreatDoor
/- A scope in which the run jumps to several labels; what a frame leaves of a cutter. -/
namespace Go.Proofs.YtlojgpkajkedeaaGreatDoor
open Go.RowKit

/-- As Q; by a goto: what holds at that label. -/
def jumps (J : Nat → Act → World → Prop) (Q : Exit → Act → World → Prop) : Exit → Act → World → Prop
  | .goto l, a, w => J l a w
  | e, a, w => Q e a w

theorem wp_scope_labels {P : Program} {a : Act} {w : World} {Q : Exit → Act → World → Prop} {c : Code} (R : Nat → Code) (J : Nat → Act → World → Prop) (μ : Nat → Act → World → Nat) (hR : ∀ l a w, J l a w → findLabel c l = some (R l))
    (first : c.wp P (jumps J Q) a w) (pass : ∀ l a w, J l a w → (R l).wp P (jumps (fun l' a' w' => J l' a' w' ∧ μ l' a' w' < μ l a w) Q) a w) : (Code.scope c).wp P Q a w := by
  intro b k cs
  have hg : ∀ l a w, J l a w → gotoIn l (.inScope c :: k) = some (.code (R l) :: .inScope c :: k) := fun l a w h => by simp [gotoIn, hR l a w h]
  have key : ∀ n l a w, μ l a w < n → J l a w → ∃ e a' w', Q e a' w' ∧ Arrives P (lone (b.at a (.code (R l) :: .inScope c :: k)) cs w) b k cs e a' w' := by
    intro n
    induction n with
    | zero => intro l a w h; omega
    | succ n ih =>
      intro l a w hn hJ
      obtain ⟨e, a1, w1, hq, harr⟩ := pass l a w hJ b (.inScope c :: k) cs
      match e, hq, harr with
      | .normal, hq, harr => exact ⟨_, a1, w1, hq, Steps.trans harr (.one step_inScope)⟩
      | .exit id, hq, harr => exact ⟨.exit id, a1, w1, hq, fun k' hk => harr k' (by simp [exitTo, hk])⟩
      | .goto l', hq, harr =>
        obtain ⟨e2, a2, w2, hq2, harr2⟩ := ih l' a1 w1 (by have := hq.2; omega) hq.1
        exact ⟨e2, a2, w2, hq2, .of_steps (harr _ (hg l' a1 w1 hq.1)) harr2⟩
      | .ret, hq, harr => exact ⟨_, a1, w1, hq, harr⟩
      | .panic _, hq, harr => exact ⟨_, a1, w1, hq, harr⟩
      | .outgrown, hq, harr => exact ⟨_, a1, w1, hq, harr⟩
  obtain ⟨e, a1, w1, hq, harr⟩ := first b (.inScope c :: k) cs
  match e, hq, harr with
  | .normal, hq, harr => exact ⟨_, a1, w1, hq, .head step_scope (Steps.trans harr (.one step_inScope))⟩
  | .exit id, hq, harr => exact ⟨.exit id, a1, w1, hq, fun k' hk => .head step_scope (harr k' (by simp [exitTo, hk]))⟩
  | .goto l', hq, harr =>
    obtain ⟨e2, a2, w2, hq2, harr2⟩ := key _ l' a1 w1 (Nat.lt_succ_self _) hq
    exact ⟨e2, a2, w2, hq2, .of_steps (.head step_scope (harr _ (hg l' a1 w1 hq))) harr2⟩
  | .ret, hq, harr => exact ⟨_, a1, w1, hq, .of_steps (.one step_scope) harr⟩
  | .panic _, hq, harr => exact ⟨_, a1, w1, hq, .of_steps (.one step_scope) harr⟩
  | .outgrown, hq, harr => exact ⟨_, a1, w1, hq, .of_steps (.one step_scope) harr⟩

/-- What is written elsewhere leaves the cutter as it is. -/
theorem Cut.frame {C : Nat} {ct : ByteArray} {f k : Nat} {ms : List Mem} {os : List Opn} {sa : Option Addr} {sc : Nat} {A : Nat → Prop} {w w' : World} {L : List Nat} (h : Cut C ct f k ms os sa sc A w) (hf : Fr L w w') (hL : ∀ x ∈ L, x ∉ C :: blks ms ∧ ¬ A x ∧ some x ≠ (Value.slice sa os.length sc).ownBlock) : Cut C ct f k ms os sa sc A w' := by
  have hlt := h.own.lt
  have hown : w'.ownsRow (C + 1) 253 3 (.slice sa os.length sc) os.length (opnCells ms os) := by
    rcases h.own.2 with h2 | ⟨g, cap, cur, hv, hg, hh, r'⟩
    · exact ⟨h.own.1, .inl h2⟩
    · refine ⟨h.own.1, .inr ⟨g, cap, cur, hv, hg, ?_, r'⟩⟩
      have hgo : (Value.slice sa os.length sc).ownBlock = some g := by rw [hv]; rfl
      rw [hf.block g (hlt g hgo).2 (fun hm => (hL g hm).2.2 hgo.symm)]
      exact hh
  refine ⟨h.ch.move (fun x hx => hf.block x ?_ (fun hm => (hL x hm).1 hx)), fun e he => (h.kids e he).move (fun x hx => hx) (fun x hx => hf.block x (h.dead x hx).1 (fun hm => (hL x hm).2.1 hx)), fun x hx => ⟨Nat.lt_of_lt_of_le (h.dead x hx).1 hf.size, (h.dead x hx).2⟩, hown, h.sep, h.above, h.inl, h.up, h.fk, h.kl, h.small, h.bytes, h.runs⟩
  rcases List.mem_cons.1 hx with rfl | hx
  · exact h.lt
  · exact h.ch.mlt x hx
end Go.Proofs.YtlojgpkajkedeaaGreatDoor
