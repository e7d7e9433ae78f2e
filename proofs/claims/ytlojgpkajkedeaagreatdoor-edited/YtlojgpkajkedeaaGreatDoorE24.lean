import Derived.Test.YtlojgpkajkedeaaGreatDoorE19
import Derived.Test.YtlojgpkajkedeaaGreatDoorE13
import Derived.Test.YtlojgpkajkedeaaGreatDoorE14
import Derived.Test.YtlojgpkajkedeaaGreatDoorE11
import Derived.Test.YtlojgpkajkedeaaGreatDoorE16
import Derived.Deep.LoopGhost
/- What a content is cut into: plain, and the calls of the automaton over it. -/
namespace Go.Proofs.YtlojgpkajkedeaaGreatDoor
open Go.RowKit

/-- A cut under way: where the text begins that is no part yet, the next byte, the parts, the openings. -/
structure St where
  f : Nat
  k : Nat
  ps : List Pt
  os : List Opn
def skipPs (ct : ByteArray) (f k : Nat) : List Pt := if f < k then [textPt ((ct.data.toList.drop f).take (k - f))] else []
theorem skipMs_p (ct : ByteArray) (f k m : Nat) : (skipMs ct f k m).map Mem.p = skipPs ct f k := by
  unfold skipMs skipPs; split <;> rfl
def St.skip (ct : ByteArray) (s : St) (n : Nat) : St := ⟨s.k + n, s.k + n, s.ps ++ skipPs ct s.f s.k, s.os⟩
def St.lay (ct : ByteArray) (s : St) (p : Pt) (n : Nat) : St := ⟨s.k + n, s.k + n, (s.ps ++ skipPs ct s.f s.k) ++ [p], s.os⟩
def St.text (s : St) (n : Nat) : St := ⟨s.f, s.k + n, s.ps, s.os⟩
def St.open (ct : ByteArray) (s : St) (t : List UInt8) (im : Bool) : St := ⟨s.k + t.length, s.k + t.length, (s.ps ++ skipPs ct s.f s.k) ++ [textPt t], s.os ++ [⟨(s.ps ++ skipPs ct s.f s.k).length, im, false⟩]⟩
def St.close (ct : ByteArray) (s : St) : Bool × St :=
  match s.os.getLast? with
  | none => (false, s)
  | some o =>
    if o.dead = false ∧ S.addrOk (ct.data.toList.drop (s.k + 1)) = true then
      (true, ⟨s.k + (3 + (S.addrOf (ct.data.toList.drop (s.k + 1))).length), s.k + (3 + (S.addrOf (ct.data.toList.drop (s.k + 1))).length),
        s.ps.take o.j ++ [closePt (S.addrOf (ct.data.toList.drop (s.k + 1))) o.image (s.ps.drop (o.j + 1) ++ skipPs ct s.f s.k)],
        if o.image then s.os.dropLast else s.os.dropLast.map Opn.kill⟩)
    else (false, ⟨s.f, s.k, s.ps, s.os.dropLast⟩)
def St.bracket (ct : ByteArray) (s : St) : Bool × St :=
  if Lib.hasPrefix (ct.data.toList.drop s.k) [93] = true then s.close ct
  else if Lib.hasPrefix (ct.data.toList.drop s.k) [91] = true then (true, s.open ct [91] false)
  else if Lib.hasPrefix (ct.data.toList.drop s.k) [33, 91] = true then (true, s.open ct [33, 91] true)
  else (false, s)
def softPt : Pt := .mk 9 [] [] [] 0 false false
def breakPt : Pt := .mk 10 [] [] [] 0 false false
/-- One turn of the automaton at a byte. -/
def stepB (ct : ByteArray) (s : St) (b : UInt8) : St :=
  if b = 92 then
    if Lib.hasPrefix (ct.data.toList.drop s.k) [92, 10] = true then s.lay ct breakPt 2
    else if S.escapes (ct.data.toList.drop s.k) = true then (s.skip ct 1).text 1
    else s.text 1
  else if b = 96 then
    match S.spanAt (ct.data.toList.drop s.k) (S.same (ct.data.toList.drop s.k)) with
    | some v => s.lay ct (spanPt ct s.k (S.same (ct.data.toList.drop s.k)) v) (v + S.same (ct.data.toList.drop s.k))
    | none => s.text (S.same (ct.data.toList.drop s.k))
  else if b = 32 then
    if Lib.hasPrefix (ct.data.toList.drop (s.k + S.same (ct.data.toList.drop s.k))) [10] = true then
      if 2 ≤ S.same (ct.data.toList.drop s.k) then s.lay ct breakPt (S.same (ct.data.toList.drop s.k) + 1)
      else s.lay ct softPt (S.same (ct.data.toList.drop s.k) + 1)
    else s.text (S.same (ct.data.toList.drop s.k))
  else if b = 10 then s.lay ct softPt 1
  else if b = 60 then
    if S.angOk (ct.data.toList.drop s.k) = true then s.lay ct (linkPt (S.angAddr (ct.data.toList.drop s.k))) ((S.angAddr (ct.data.toList.drop s.k)).length + 2)
    else s.text 1
  else if b = 42 ∨ b = 95 then s.lay ct (runPt ct s.k (S.same (ct.data.toList.drop s.k))) (S.same (ct.data.toList.drop s.k))
  else if b = 33 ∨ b = 91 ∨ b = 93 then
    if (s.bracket ct).1 = true then (s.bracket ct).2 else (s.bracket ct).2.text 1
  else s.text 1
def step (ct : ByteArray) (s : St) : St := match ct.data.toList[s.k]? with
  | none => s
  | some b => stepB ct s b
theorem step_at (ct : ByteArray) (s : St) (h : s.k < ct.size) : step ct s = stepB ct s ct[s.k] := by
  unfold step; rw [S.get_data ct s.k h]
/-- What the automaton comes to. -/
inductive Ends (ct : ByteArray) : St → List Pt → Prop
  | done (s : St) (h : s.k = ct.size) : Ends ct s (s.skip ct 0).ps
  | go (s : St) (r : List Pt) (h : s.k < ct.size) (hr : Ends ct (step ct s) r) : Ends ct s r

def EnvC (C : Nat) : Prop := 3 < C ∧ 0 < C
theorem Env.belowC {C : Nat} {w w' : World} (h : Env w) (hC : EnvC C) (hb : Below C w w') : Env w' := by
  obtain ⟨⟨ev, h1, h2⟩, ⟨m, h3⟩, h4, h5⟩ := h
  have := hb.size
  exact ⟨⟨ev, (hb.cell (p := ⟨3, 0, none⟩) hC.1).trans h1, h2⟩, ⟨m, (hb.cell (p := ⟨0, 0, none⟩) hC.2).trans h3⟩, by omega, by omega⟩

/-- A cut under way, in memory. -/
structure At (C : Nat) (ct : ByteArray) (w0 : World) (s : St) (w : World) : Prop where
  cut : ∃ ms sa sc A, Cut C ct s.f s.k ms s.os sa sc A w ∧ ms.map Mem.p = s.ps
  below : Below C w0 w
  env : Env w
  envC : EnvC C
  few : s.os.length ≤ s.k
theorem At.step {C : Nat} {ct : ByteArray} {w0 w w' : World} {s s' : St} (h : At C ct w0 s w) (hb : Below C w w') (hc : ∃ ms sa sc A, Cut C ct s'.f s'.k ms s'.os sa sc A w' ∧ ms.map Mem.p = s'.ps) (hf : s'.os.length ≤ s'.k) : At C ct w0 s' w' :=
  ⟨hc, h.below.trans hb, h.env.belowC h.envC hb, h.envC, hf⟩
theorem At.lt {C : Nat} {ct : ByteArray} {w0 w : World} {s : St} (h : At C ct w0 s w) : C < w.heap.size := by
  obtain ⟨ms, sa, sc, A, hc, hp⟩ := h.cut; exact hc.lt
theorem At.kl {C : Nat} {ct : ByteArray} {w0 w : World} {s : St} (h : At C ct w0 s w) : s.k ≤ ct.size := by
  obtain ⟨ms, sa, sc, A, hc, hp⟩ := h.cut; exact hc.kl
theorem At.small {C : Nat} {ct : ByteArray} {w0 w : World} {s : St} (h : At C ct w0 s w) : ct.size ≤ 1000000 := by
  obtain ⟨ms, sa, sc, A, hc, hp⟩ := h.cut; exact hc.small
theorem At.cells {C : Nat} {ct : ByteArray} {w0 w : World} {s : St} (h : At C ct w0 s w) : ∃ x3 x4 x5, w.heap[C]? = some (.cells [.string ct, .int .i64 (s.f : Nat), .int .i64 (s.k : Nat), x3, x4, x5].toArray 168 (0, 0)) := by
  obtain ⟨ms, sa, sc, A, hc, hp⟩ := h.cut; exact ⟨_, _, _, hc.cells⟩
theorem At.same {C : Nat} {ct : ByteArray} {w0 w w' : World} {s : St} (h : At C ct w0 s w) (hb : Below w.heap.size w w') : At C ct w0 s w' := by
  obtain ⟨ms, sa, sc, A, hc, hp⟩ := h.cut
  exact h.step (hb.mono (Nat.le_of_lt hc.lt)) ⟨ms, sa, sc, A, hc.below hb, hp⟩ h.few
theorem At.drew {C : Nat} {ct : ByteArray} {w0 w : World} {s : St} (h : At C ct w0 s w) : At C ct w0 s w.drew := h.same (Below.refl _ _).drew
theorem At.text {C : Nat} {ct : ByteArray} {w0 w : World} {s : St} (h : At C ct w0 s w) (n : Nat) (hn : s.k + n ≤ ct.size) : At C ct w0 (s.text n) (w.setCell ⟨C, 2, none⟩ (.int .i64 ((s.k + n : Nat) : Int))) := by
  obtain ⟨ms, sa, sc, A, hc, hp⟩ := h.cut
  have hfr : Fr (C :: blks ms) w (w.setCell ⟨C, 2, none⟩ (.int .i64 ((s.k + n : Nat) : Int))) := (Fr.refl _ w).setCell _ (.inl (by simp)) _
  have hg : Cut C ct s.f (s.k + n) (ms ++ []) s.os sa sc A (w.setCell ⟨C, 2, none⟩ (.int .i64 ((s.k + n : Nat) : Int))) :=
    hc.grow (r := []) (by rw [List.append_nil]; exact hc.ch.set2 (n := s.k + n)) hfr (fun x hx => by simp [blks] at hx) (fun e he => by simp at he) (fun x hx => hx) (fun x hx => .inl hx)
      (by have hb := hc.bytes; simp [txt] at hb ⊢; omega) (by have := hc.fk; omega) hn (fun x hx => by simp at hx)
  rw [List.append_nil] at hg
  exact h.step (hc.frBelow hfr) ⟨ms, sa, sc, A, hg, hp⟩ (by have := h.few; simp only [St.text]; omega)

theorem skip_at {C : Nat} {ct : ByteArray} {w0 w : World} {s : St} (n : Nat) (h : At C ct w0 s w) (hn : s.k + n ≤ ct.size) :
    Calls Tryz.prog 152 #[.pointer (some ⟨C, 0, none⟩), .int .i64 (n : Nat)] w fun e w' => e = .returned (.tuple #[]) ∧ At C ct w0 (s.skip ct n) w' := by
  obtain ⟨ms, sa, sc, A, hc, hp⟩ := h.cut
  refine (skip_any C ct s.f s.k n ms s.os sa sc A w hc hn).mono ?_
  rintro e w' ⟨m, rfl, hm, hC, hf⟩
  exact ⟨rfl, h.step (hc.frBelow hf) ⟨_, _, _, _, hC, by rw [List.map_append, skipMs_p, hp]; rfl⟩ (by have := h.few; simp only [St.skip]; omega)⟩

theorem lay_at {C : Nat} {ct : ByteArray} {w0 w : World} {s : St} (p : Pt) (n : Nat) (h : At C ct w0 s w) (hn : s.k + n ≤ ct.size) (ht : p.text = []) (hr : p.rs = 0) (hk : p.kids = []) :
    Calls Tryz.prog 162 #[.pointer (some ⟨C, 0, none⟩), partV p none none, .int .i64 (n : Nat)] w fun e w' => (∃ v, e = .returned v) ∧ At C ct w0 (s.lay ct p n) w' := by
  obtain ⟨ms, sa, sc, A, hc, hp⟩ := h.cut
  refine (lay_any C ct s.f s.k n ms s.os sa sc A p none none w hc hn (by rw [ht]; exact Nat.zero_le _) (by omega) (by rw [hk]; exact .nil)).mono ?_
  rintro e w' ⟨m1, m2, rfl, hm1, hm2, hC, hf⟩
  exact ⟨⟨_, rfl⟩, h.step (hc.frBelow hf) ⟨_, _, _, _, hC, by rw [List.map_append, List.map_append, skipMs_p, hp]; rfl⟩ (by have := h.few; simp only [St.lay]; omega)⟩

theorem same_at (ct : ByteArray) (k : Nat) (hk : k < ct.size) : 1 ≤ S.same (ct.data.toList.drop k) ∧ k + S.same (ct.data.toList.drop k) ≤ ct.size := by
  have h := S.same_reach (ct.data.toList.drop k) (fun e => by have := congrArg List.length e; simp at this; omega)
  rw [List.length_drop, S.length_data] at h
  omega

theorem layRun_at {C : Nat} {ct : ByteArray} {w0 w : World} {s : St} (h : At C ct w0 s w) (hk : s.k < ct.size) (hb : ct[s.k].toNat < 128) :
    Calls Tryz.prog 157 #[.pointer (some ⟨C, 0, none⟩)] w fun e w' => e = .returned (.tuple #[]) ∧ At C ct w0 (s.lay ct (runPt ct s.k (S.same (ct.data.toList.drop s.k))) (S.same (ct.data.toList.drop s.k))) w' := by
  obtain ⟨ms, sa, sc, A, hc, hp⟩ := h.cut
  refine (layRun_any C ct s.f s.k _ ms s.os sa sc A w hc hk hb rfl (same_at ct s.k hk).2).mono ?_
  rintro e w' ⟨m1, m2, rfl, hm1, hm2, hC, hf⟩
  exact ⟨rfl, h.step (hc.frBelow hf) ⟨_, _, _, _, hC, by rw [List.map_append, List.map_append, skipMs_p, hp]; rfl⟩ (by have := h.few; simp only [St.lay]; omega)⟩

theorem laySpan_at {C : Nat} {ct : ByteArray} {w0 w : World} {s : St} (h : At C ct w0 s w) (hk : s.k < ct.size) :
    Calls Tryz.prog 155 #[.pointer (some ⟨C, 0, none⟩), .int .i64 (S.same (ct.data.toList.drop s.k) : Nat)] w fun e w' => e = .returned (.bool (S.spanAt (ct.data.toList.drop s.k) (S.same (ct.data.toList.drop s.k))).isSome) ∧ At C ct w0 (match S.spanAt (ct.data.toList.drop s.k) (S.same (ct.data.toList.drop s.k)) with
    | some v => s.lay ct (spanPt ct s.k (S.same (ct.data.toList.drop s.k)) v) (v + S.same (ct.data.toList.drop s.k))
    | none => s) w' := by
  obtain ⟨ms, sa, sc, A, hc, hp⟩ := h.cut
  have hs := same_at ct s.k hk
  cases hv : S.spanAt (ct.data.toList.drop s.k) (S.same (ct.data.toList.drop s.k)) with
  | none =>
    refine (laySpan_none C ct s.f s.k _ _ _ _ w hc.cells hc.small hk hs.1 hs.2 hv).mono ?_
    rintro e w' ⟨rfl, hb⟩
    exact ⟨rfl, h.same hb⟩
  | some v =>
    have hb := S.spanAt_bound _ _ _ (by rw [List.length_drop, S.length_data]; omega) hv
    rw [List.length_drop, S.length_data] at hb
    refine (laySpan_some C ct s.f s.k _ v ms s.os sa sc A w hc hk hs.1 hs.2 hv hb.1 (by omega) h.env).mono ?_
    rintro e w' ⟨m1, m2, rfl, hm1, hm2, hC, hf⟩
    exact ⟨rfl, h.step (hc.frBelow hf) ⟨_, _, _, _, hC, by rw [List.map_append, List.map_append, skipMs_p, hp]; rfl⟩ (by have := h.few; simp only [St.lay]; omega)⟩

theorem layAddress_at {C : Nat} {ct : ByteArray} {w0 w : World} {s : St} (h : At C ct w0 s w) (hk : s.k < ct.size) :
    Calls Tryz.prog 156 #[.pointer (some ⟨C, 0, none⟩)] w fun e w' => e = .returned (.bool (S.angOk (ct.data.toList.drop s.k))) ∧ At C ct w0 (if S.angOk (ct.data.toList.drop s.k) = true then s.lay ct (linkPt (S.angAddr (ct.data.toList.drop s.k))) ((S.angAddr (ct.data.toList.drop s.k)).length + 2) else s) w' := by
  obtain ⟨ms, sa, sc, A, hc, hp⟩ := h.cut
  cases hv : S.angOk (ct.data.toList.drop s.k) with
  | false =>
    refine (layAddress_none C ct s.f s.k _ _ _ w hc.cells hc.small hk hv).mono ?_
    rintro e w' ⟨rfl, hb⟩
    exact ⟨rfl, h.same hb⟩
  | true =>
    have hb := S.ang_reach _ hv
    rw [List.length_drop, S.length_data] at hb
    refine (layAddress_some C ct s.f s.k _ ms s.os sa sc A w hc hk hv rfl (by omega)).mono ?_
    rintro e w' ⟨m1, m2, m3, rfl, hm1, hm2, hm3, hC, hf⟩
    exact ⟨rfl, h.step (hc.frBelow hf) ⟨_, _, _, _, hC, by rw [List.map_append, List.map_append, skipMs_p, hp]; rfl⟩ (by have := h.few; simp [St.lay]; omega)⟩

theorem open_at {C : Nat} {ct t : ByteArray} {w0 w : World} {s : St} (im : Bool) (h : At C ct w0 s w) (hk : s.k + t.size ≤ ct.size) (ht : 1 ≤ t.size) (him : (t.toList == [33, 91]) = im) :
    Calls Tryz.prog 204 #[.pointer (some ⟨C, 0, none⟩), .string t] w fun e w' => e = .returned (.tuple #[]) ∧ At C ct w0 (s.open ct t.data.toList im) w' := by
  obtain ⟨ms, sa, sc, A, hc, hp⟩ := h.cut
  refine (open_any C ct t im s.f s.k ms s.os sa sc A w hc hk him (by have := h.few; have := hc.kl; have := hc.small; omega)).mono ?_
  rintro e w' ⟨m1, m2, sa', sc', rfl, hm1, hm2, hC, hf⟩
  have hl : (ms ++ skipMs ct s.f s.k m1).length = (s.ps ++ skipPs ct s.f s.k).length := by rw [← hp, ← skipMs_p ct s.f s.k m1, ← List.map_append, List.length_map]
  rw [hl, ← S.length_data t] at hC
  exact ⟨rfl, h.step hf ⟨_, _, _, _, hC, by rw [List.map_append, List.map_append, skipMs_p, hp]; rfl⟩ (by have := h.few; simp only [St.open, List.length_append, List.length_cons, List.length_nil, S.length_data]; omega)⟩

theorem close_at {C : Nat} {ct : ByteArray} {w0 w : World} {s : St} (h : At C ct w0 s w) (hk : s.k < ct.size) :
    Calls Tryz.prog 203 #[.pointer (some ⟨C, 0, none⟩)] w fun e w' => e = .returned (.bool (s.close ct).1) ∧ At C ct w0 (s.close ct).2 w' := by
  obtain ⟨ms, sa, sc, A, hc, hp⟩ := h.cut
  have hfew := h.few
  have hsm := hc.small
  rcases List.eq_nil_or_concat s.os with ho | ⟨os, o, ho⟩
  · have he : s.close ct = (false, s) := by unfold St.close; rw [ho]; rfl
    rw [he]
    rw [ho] at hc
    refine (close_none C ct s.f s.k ms sa sc A w hc).mono ?_
    rintro e w' ⟨rfl, hb⟩
    exact ⟨rfl, h.same hb⟩
  · have ho : s.os = os ++ [o] := by simpa using ho
    have hlast : s.os.getLast? = some o := by rw [ho]; simp
    have hdl : s.os.dropLast = os := by rw [ho]; simp
    have hol : os.length + 1 ≤ s.k := by have := hfew; rw [ho] at this; simpa using this
    rw [ho] at hc
    cases hd : o.dead with
    | true =>
      have he : s.close ct = (false, ⟨s.f, s.k, s.ps, os⟩) := by unfold St.close; rw [hlast, hdl]; simp [hd]
      rw [he]
      refine (close_dead C ct s.f s.k ms os o sa sc A w hc (by omega) hd).mono ?_
      rintro e w' ⟨rfl, hC, hb⟩
      exact ⟨rfl, h.step hb ⟨_, _, _, _, hC, hp⟩ (by show os.length ≤ s.k; omega)⟩
    | false =>
      cases hv : S.addrOk (ct.data.toList.drop (s.k + 1)) with
      | false =>
        have he : s.close ct = (false, ⟨s.f, s.k, s.ps, os⟩) := by unfold St.close; rw [hlast, hdl]; simp [hv]
        rw [he]
        refine (close_bare C ct s.f s.k ms os o sa sc A w hc (by omega) hd hk hv).mono ?_
        rintro e w' ⟨rfl, hC, hb⟩
        exact ⟨rfl, h.step hb ⟨_, _, _, _, hC, hp⟩ (by show os.length ≤ s.k; omega)⟩
      | true =>
        obtain ⟨n, hn⟩ : ∃ n, (S.addrOf (ct.data.toList.drop (s.k + 1))).length = n := ⟨_, rfl⟩
        have hr := S.addr_reach _ hv
        rw [List.length_drop, S.length_data, hn] at hr
        have hj : o.j < ms.length := hc.inl o (by simp)
        have hms : ms = ms.take o.j ++ ms[o.j] :: ms.drop (o.j + 1) := by rw [← List.drop_eq_getElem_cons hj, List.take_append_drop]
        have hlen : o.j = (ms.take o.j).length := by rw [List.length_take]; omega
        have he : s.close ct = (true, ⟨s.k + (3 + n), s.k + (3 + n), s.ps.take o.j ++ [closePt (S.addrOf (ct.data.toList.drop (s.k + 1))) o.image (s.ps.drop (o.j + 1) ++ skipPs ct s.f s.k)], if o.image then os else os.map Opn.kill⟩) := by
          unfold St.close; rw [hlast, hdl]; simp [hv, hd, hn]
        rw [he]
        obtain ⟨P, hP⟩ : ∃ P, P = ms.take o.j := ⟨_, rfl⟩
        obtain ⟨M, hM⟩ : ∃ M, M = ms.drop (o.j + 1) := ⟨_, rfl⟩
        obtain ⟨a, ha⟩ : ∃ a, a = ms[o.j] := ⟨_, rfl⟩
        have hPp : P.map Mem.p = s.ps.take o.j := by rw [hP, ← hp, List.map_take]
        have hMp : M.map Mem.p = s.ps.drop (o.j + 1) := by rw [hM, ← hp, List.map_drop]
        rw [← hP, ← hM, ← ha] at hms
        rw [← hP] at hlen
        rw [hms] at hc
        refine close_some C ct s.f s.k n P M a os o sa sc A w hc hlen (by omega) hd hk hv hn (by omega) _ ?_
        rintro e w' ⟨m1, A', kf, kl, rfl, hC, hb⟩
        refine ⟨rfl, h.step hb ⟨_, sa, sc, A', hC, ?_⟩ ?_⟩
        · rw [List.map_append, hPp, List.map_append, hMp, skipMs_p]; rfl
        · show (if o.image then os else os.map Opn.kill).length ≤ s.k + (3 + n)
          split
          · omega
          · rw [List.length_map]; omega

theorem prefix_len (l p : List UInt8) (h : Lib.hasPrefix l p = true) : p.length ≤ l.length := by
  unfold Lib.hasPrefix at h
  have := (List.isPrefixOf_iff_prefix.1 h).length_le
  exact this

theorem bracket_at {C : Nat} {ct : ByteArray} {w0 w : World} {s : St} (h : At C ct w0 s w) (hk : s.k < ct.size) :
    Calls Tryz.prog 158 #[.pointer (some ⟨C, 0, none⟩)] w fun e w' => e = .returned (.bool (s.bracket ct).1) ∧ At C ct w0 (s.bracket ct).2 w' := by
  obtain ⟨x3, x4, x5, hcc⟩ := h.cells
  unfold St.bracket
  cases hp : Lib.hasPrefix (ct.data.toList.drop s.k) [93] with
  | true =>
    have hc := close_at h.drew hk
    refine (bracket_shut C ct s.f s.k x3 x4 x5 w hcc h.kl hp (fun b w' => b = (s.close ct).1 ∧ At C ct w0 (s.close ct).2 w') (hc.mono (fun e w' hh => ⟨_, hh.1, rfl, hh.2⟩))).mono ?_
    rintro e w' ⟨b, rfl, rfl, hA⟩
    exact ⟨rfl, hA⟩
  | false =>
    cases hq : Lib.hasPrefix (ct.data.toList.drop s.k) [91] with
    | true =>
      have hc := open_at (t := ⟨#[91]⟩) false h.drew.drew (by show s.k + 1 ≤ ct.size; omega) (by decide) (by kernel_rfl)
      refine (bracket_open C ct s.f s.k x3 x4 x5 w hcc h.kl hp hq _ hc).mono ?_
      rintro e w' ⟨rfl, hA⟩
      exact ⟨rfl, hA⟩
    | false =>
      cases hr : Lib.hasPrefix (ct.data.toList.drop s.k) [33, 91] with
      | true =>
        have hl := prefix_len _ _ hr
        rw [List.length_drop, S.length_data] at hl
        have hl : 2 ≤ ct.size - s.k := hl
        have hc := open_at (t := ⟨#[33, 91]⟩) true h.drew.drew.drew (by show s.k + 2 ≤ ct.size; omega) (by decide) (by kernel_rfl)
        refine (bracket_image C ct s.f s.k x3 x4 x5 w hcc h.kl hp hq hr _ hc).mono ?_
        rintro e w' ⟨rfl, hA⟩
        exact ⟨rfl, hA⟩
      | false =>
        refine (bracket_none C ct s.f s.k x3 x4 x5 w hcc h.kl hp hq hr).mono ?_
        rintro e w' ⟨rfl, hb⟩
        exact ⟨rfl, h.same hb⟩
end Go.Proofs.YtlojgpkajkedeaaGreatDoor
/- One turn at each byte; a scope with six labels. -/
namespace Go.Proofs.YtlojgpkajkedeaaGreatDoor
open Go.RowKit

theorem step_92 (ct : ByteArray) (s : St) (h : s.k < ct.size) (hb : ct[s.k] = 92) : step ct s = (if Lib.hasPrefix (ct.data.toList.drop s.k) [92, 10] = true then s.lay ct breakPt 2 else if S.escapes (ct.data.toList.drop s.k) = true then (s.skip ct 1).text 1 else s.text 1) := by
  rw [step_at ct s h, hb]; unfold stepB; rw [if_pos rfl]
theorem step_96 (ct : ByteArray) (s : St) (h : s.k < ct.size) (hb : ct[s.k] = 96) : step ct s = (match S.spanAt (ct.data.toList.drop s.k) (S.same (ct.data.toList.drop s.k)) with
    | some v => s.lay ct (spanPt ct s.k (S.same (ct.data.toList.drop s.k)) v) (v + S.same (ct.data.toList.drop s.k))
    | none => s.text (S.same (ct.data.toList.drop s.k))) := by
  rw [step_at ct s h, hb]; unfold stepB; rw [if_neg (by decide), if_pos rfl] <;> rfl
theorem step_32 (ct : ByteArray) (s : St) (h : s.k < ct.size) (hb : ct[s.k] = 32) : step ct s = (if Lib.hasPrefix (ct.data.toList.drop (s.k + S.same (ct.data.toList.drop s.k))) [10] = true then
      if 2 ≤ S.same (ct.data.toList.drop s.k) then s.lay ct breakPt (S.same (ct.data.toList.drop s.k) + 1)
      else s.lay ct softPt (S.same (ct.data.toList.drop s.k) + 1)
    else s.text (S.same (ct.data.toList.drop s.k))) := by
  rw [step_at ct s h, hb]; unfold stepB; rw [if_neg (by decide), if_neg (by decide), if_pos rfl]
theorem step_10 (ct : ByteArray) (s : St) (h : s.k < ct.size) (hb : ct[s.k] = 10) : step ct s = s.lay ct softPt 1 := by
  rw [step_at ct s h, hb]; unfold stepB; rw [if_neg (by decide), if_neg (by decide), if_neg (by decide), if_pos rfl]
theorem step_60 (ct : ByteArray) (s : St) (h : s.k < ct.size) (hb : ct[s.k] = 60) : step ct s = (if S.angOk (ct.data.toList.drop s.k) = true then s.lay ct (linkPt (S.angAddr (ct.data.toList.drop s.k))) ((S.angAddr (ct.data.toList.drop s.k)).length + 2) else s.text 1) := by
  rw [step_at ct s h, hb]; unfold stepB; rw [if_neg (by decide), if_neg (by decide), if_neg (by decide), if_neg (by decide), if_pos rfl]
theorem step_run (ct : ByteArray) (s : St) (h : s.k < ct.size) (hb : ct[s.k] = 42 ∨ ct[s.k] = 95) : step ct s = s.lay ct (runPt ct s.k (S.same (ct.data.toList.drop s.k))) (S.same (ct.data.toList.drop s.k)) := by
  rw [step_at ct s h]; unfold stepB
  rcases hb with hb | hb <;> rw [hb, if_neg (by decide), if_neg (by decide), if_neg (by decide), if_neg (by decide), if_neg (by decide), if_pos (by decide)]
theorem step_br (ct : ByteArray) (s : St) (h : s.k < ct.size) (hb : ct[s.k] = 33 ∨ ct[s.k] = 91 ∨ ct[s.k] = 93) : step ct s = (if (s.bracket ct).1 = true then (s.bracket ct).2 else (s.bracket ct).2.text 1) := by
  rw [step_at ct s h]; unfold stepB
  rcases hb with hb | hb | hb <;> rw [hb, if_neg (by decide), if_neg (by decide), if_neg (by decide), if_neg (by decide), if_neg (by decide), if_neg (by decide), if_pos (by decide)]
theorem step_else (ct : ByteArray) (s : St) (h : s.k < ct.size) (h1 : ct[s.k] ≠ 92) (h2 : ct[s.k] ≠ 96) (h3 : ct[s.k] ≠ 32) (h4 : ct[s.k] ≠ 10) (h5 : ct[s.k] ≠ 60) (h6 : ct[s.k] ≠ 42) (h7 : ct[s.k] ≠ 95) (h8 : ct[s.k] ≠ 33) (h9 : ct[s.k] ≠ 91) (h10 : ct[s.k] ≠ 93) : step ct s = s.text 1 := by
  rw [step_at ct s h]; unfold stepB
  rw [if_neg h1, if_neg h2, if_neg h3, if_neg h4, if_neg h5, if_neg (by rintro (h | h); exact h6 h; exact h7 h), if_neg (by rintro (h | h | h); exact h8 h; exact h9 h; exact h10 h)]

theorem wp_skip_seq {P : Program} {Q : Exit → Act → World → Prop} {a : Act} {w : World} {x : Code} (h : x.wp P Q a w) : (Code.skip.seq x).wp P Q a w := wp_seq (wp_skip h)
theorem wp_label_seq {P : Program} {Q : Exit → Act → World → Prop} {a : Act} {w : World} {l : Nat} {x : Code} (h : x.wp P Q a w) : ((Code.label l).seq x).wp P Q a w := wp_seq (wp_label h)
theorem wp_goto_seq {P : Program} {Q : Exit → Act → World → Prop} {a : Act} {w : World} {l : Nat} {x : Code} (h : Q (.goto l) a w) : ((Code.goto l).seq x).wp P Q a w := wp_seq (wp_goto h)
/-- A piece of code, and what it goes on with, as a letter. -/
theorem wp_seq_then {P : Program} {Q : Exit → Act → World → Prop} {a : Act} {w : World} {x y : Code} (R : Act → World → Prop) (h : ∀ K : Act → World → Prop, (∀ a w, R a w → K a w) → x.wp P (Exit.then K Q) a w) (hy : ∀ a w, R a w → y.wp P Q a w) : (Code.seq x y).wp P Q a w := wp_seq (h _ hy)

/-- A scope with six labels: what holds at each bears a number, which every pass lowers. -/
theorem wp_scope_six {P : Program} {a : Act} {w : World} {Q : Exit → Act → World → Prop} {c x c0 c1 c2 c3 c4 c5 : Code} (J : Nat → Nat → Act → World → Prop) (hJ : ∀ l n a w, J l n a w → l < 6)
    (f0 : c = x.seq ((Code.label 0).seq c0)) (fx : findLabel x 0 = none) (f1 : findLabel c 1 = some c1) (f2 : findLabel c 2 = some c2) (f3 : findLabel c 3 = some c3) (f4 : findLabel c 4 = some c4) (f5 : findLabel c 5 = some c5)
    (start : ∀ QQ : Exit → Act → World → Prop, ∀ K : Act → World → Prop, Hid (∀ n a w, J 0 n a w → K a w) → x.wp P (Exit.then K QQ) a w)
    (p0 : ∀ n a w, J 0 n a w → ∀ K : Nat → Act → World → Prop, Hid (∀ l n' a' w', n' < n → J l n' a' w' → K l a' w') → c0.wp P (jumps K Q) a w)
    (p1 : ∀ n a w, J 1 n a w → ∀ K : Nat → Act → World → Prop, Hid (∀ l n' a' w', n' < n → J l n' a' w' → K l a' w') → c1.wp P (jumps K Q) a w)
    (p2 : ∀ n a w, J 2 n a w → ∀ K : Nat → Act → World → Prop, Hid (∀ l n' a' w', n' < n → J l n' a' w' → K l a' w') → c2.wp P (jumps K Q) a w)
    (p3 : ∀ n a w, J 3 n a w → ∀ K : Nat → Act → World → Prop, Hid (∀ l n' a' w', n' < n → J l n' a' w' → K l a' w') → c3.wp P (jumps K Q) a w)
    (p4 : ∀ n a w, J 4 n a w → ∀ K : Nat → Act → World → Prop, Hid (∀ l n' a' w', n' < n → J l n' a' w' → K l a' w') → c4.wp P (jumps K Q) a w)
    (p5 : ∀ n a w, J 5 n a w → ∀ K : Nat → Act → World → Prop, Hid (∀ l n' a' w', n' < n → J l n' a' w' → K l a' w') → c5.wp P (jumps K Q) a w) : (Code.scope c).wp P Q a w := by
  refine wp_scope_labels (fun l => match l with | 0 => Code.skip.seq c0 | 1 => c1 | 2 => c2 | 3 => c3 | 4 => c4 | _ => c5) (fun l a w => ∃ n, J l n a w) (fun l a w => leastOf (fun n => J l n a w)) ?_ ?_ ?_
  · rintro l a w ⟨n, h⟩
    match l, hJ l n a w h with
    | 0, _ => rw [f0]; simp [findLabel, fx]
    | 1, _ => exact f1
    | 2, _ => exact f2
    | 3, _ => exact f3
    | 4, _ => exact f4
    | 5, _ => exact f5
    | l + 6, h6 => omega
  · rw [f0]
    exact wp_seq (start _ _ (hid (fun n a w h => wp_label_seq (p0 n a w h _ (hid (fun l n' a' w' _ h => ⟨n', h⟩))))))
  · rintro l a w h0
    have hs := (leastOf_spec h0).1
    have key : Hid (∀ l' n' a' w', n' < leastOf (fun n => J l n a w) → J l' n' a' w' → (∃ n, J l' n a' w') ∧ leastOf (fun n => J l' n a' w') < leastOf (fun n => J l n a w)) :=
      hid (fun l' n' a' w' hlt h => ⟨⟨n', h⟩, Nat.lt_of_le_of_lt ((leastOf_spec ⟨n', h⟩).2 n' h) hlt⟩)
    match l, hJ l _ a w hs with
    | 0, _ => exact wp_skip_seq (p0 _ a w hs _ key)
    | 1, _ => exact p1 _ a w hs _ key
    | 2, _ => exact p2 _ a w hs _ key
    | 3, _ => exact p3 _ a w hs _ key
    | 4, _ => exact p4 _ a w hs _ key
    | 5, _ => exact p5 _ a w hs _ key
    | l + 6, h6 => omega
end Go.Proofs.YtlojgpkajkedeaaGreatDoor
/- How many parts a content has: plain. -/
namespace Go.Proofs.YtlojgpkajkedeaaGreatDoor
open Go.RowKit

/-- How many parts there are, those within others counted in. -/
def cntP : Pt → Nat
  | .mk _ _ _ kids _ _ _ => 1 + cntL kids
  where
  cntL : List Pt → Nat
  | [] => 0
  | p :: r => cntP p + cntL r
abbrev cntL := cntP.cntL
theorem cntP_eq (p : Pt) : cntP p = 1 + cntL p.kids := by cases p; rfl
theorem cntL_cons (p : Pt) (r : List Pt) : cntL (p :: r) = cntP p + cntL r := rfl
theorem cntL_append (a b : List Pt) : cntL (a ++ b) = cntL a + cntL b := by
  induction a with
  | nil => simp [cntP.cntL]
  | cons p r ih => simp only [List.cons_append, cntL_cons, ih]; omega
theorem cntP_withText (p : Pt) (t : List UInt8) : cntP (p.withText t) = cntP p := by cases p; rfl
/-- Parts and bytes of texts. -/
def phi (l : List Pt) : Nat := (l.map (fun p => cntP p + p.text.length)).sum
theorem phi_nil : phi [] = 0 := rfl
theorem phi_cons (p : Pt) (r : List Pt) : phi (p :: r) = cntP p + p.text.length + phi r := by simp [phi]
theorem phi_append (a b : List Pt) : phi (a ++ b) = phi a + phi b := by simp [phi]
theorem cnt_phi (l : List Pt) : cntL l ≤ phi l := by
  induction l with
  | nil => exact Nat.le_refl _
  | cons p r ih => rw [cntL_cons, phi_cons]; omega
theorem cnt_join (f : Nat) (l : List Pt) : cntL (joinF f l) ≤ cntL l := by
  induction f generalizing l with
  | zero => exact Nat.zero_le _
  | succ f ih =>
    cases l with
    | nil => exact Nat.le_refl _
    | cons p r =>
      simp only [joinF]
      split
      · split
        · have := ih r; rw [cntL_cons]; omega
        · cases r with
          | nil => exact Nat.le_refl _
          | cons q r' =>
            dsimp only
            split
            · have := ih (q.withText (p.text ++ q.text) :: r')
              rw [cntL_cons, cntP_withText] at this
              rw [cntL_cons, cntL_cons]; omega
            · have := ih (q :: r')
              rw [cntL_cons, cntL_cons]; omega
      · have := ih r; rw [cntL_cons, cntL_cons]; omega
theorem lastO_cut (s : Pt) (l : List Pt) (l1 : List Pt) (x : Pt) (m : List Pt) (h : lastO s l = some (l1, x, m)) : l = l1 ++ x :: m ∧ opens s x = true := by
  induction l generalizing l1 x m with
  | nil => simp [lastO] at h
  | cons p r ih =>
    simp only [lastO] at h
    cases hr : lastO s r with
    | none =>
      rw [hr] at h
      dsimp only at h
      split at h
      · rename_i ho; simp at h; obtain ⟨rfl, rfl, rfl⟩ := h; exact ⟨rfl, ho⟩
      · simp at h
    | some v =>
      obtain ⟨a, b, c⟩ := v
      rw [hr] at h
      simp at h
      obtain ⟨rfl, rfl, rfl⟩ := h
      obtain ⟨h1, h2⟩ := ih a b c hr
      exact ⟨by rw [h1]; rfl, h2⟩
theorem text_withText (p : Pt) (t : List UInt8) : (p.withText t).text = t := by cases p; rfl
theorem phi_close (f : Nat) (L : List Pt) (s : Pt) : phi ((closeF f L s).1 ++ [(closeF f L s).2]) ≤ phi (L ++ [s]) := by
  induction f generalizing L s with
  | zero => exact Nat.le_refl _
  | succ f ih =>
    simp only [closeF]
    split
    · rename_i hs
      cases ho : lastO s L with
      | none => exact Nat.le_refl _
      | some v =>
        obtain ⟨l1, x, m⟩ := v
        dsimp only
        refine Nat.le_trans (ih _ _) ?_
        obtain ⟨h1, h2⟩ := lastO_cut s L l1 x m ho
        subst h1
        have hx : x.text ≠ [] := by
          intro e; unfold opens at h2; rw [e] at h2; simp at h2
        have hxl : 0 < x.text.length := List.length_pos_iff.2 hx
        have hsl : 0 < s.text.length := List.length_pos_iff.2 hs.2
        have hz : 1 ≤ wsize x s := by unfold wsize; split <;> omega
        have hj := cnt_join m.length m
        have hp := cnt_phi m
        have hw : cntP (wrapPt (wsize x s) m) ≤ 1 + phi m := by
          rw [cntP_eq]; show 1 + cntL (joinT m) ≤ _; unfold joinT; omega
        have hwt : (wrapPt (wsize x s) m).text = [] := rfl
        simp only [phi_append, phi_cons, phi_nil, cntP_withText, text_withText, List.length_drop, hwt, List.length_nil]
        omega
    · exact Nat.le_refl _
theorem phi_pairF (L l : List Pt) : phi (pairF L l) ≤ phi (L ++ l) := by
  induction l generalizing L with
  | nil => simp [pairF]
  | cons s r ih =>
    simp only [pairF]
    refine Nat.le_trans (ih _) ?_
    have := phi_close s.text.length L s
    simp only [phi_append, phi_cons, phi_nil] at this ⊢
    omega
theorem cnt_settle (l : List Pt) : cntL (settleT l) ≤ phi l := by
  unfold settleT joinT
  have h1 := cnt_join (pairT l).length (pairT l)
  have h2 := cnt_phi (pairT l)
  have h3 := phi_pairF [] l
  rw [List.nil_append] at h3
  unfold pairT at *
  omega
theorem phi_skip (ct : ByteArray) (f k : Nat) : phi (skipPs ct f k) ≤ 2 * (k - f) := by
  unfold skipPs
  split
  · have : ((ct.data.toList.drop f).take (k - f)).length ≤ k - f := by rw [List.length_take]; omega
    rw [phi_cons, phi_nil]; show 1 + cntL [] + _ + 0 ≤ _
    show 1 + 0 + ((ct.data.toList.drop f).take (k - f)).length + 0 ≤ _
    omega
  · exact Nat.zero_le _
/-- What every turn keeps. -/
def Fit (s : St) : Prop := phi s.ps ≤ 3 * s.f ∧ s.f ≤ s.k
theorem Fit.text {s : St} (h : Fit s) (n : Nat) : Fit (s.text n) := ⟨h.1, by have := h.2; show s.f ≤ s.k + n; omega⟩
theorem Fit.skip {s : St} (h : Fit s) (ct : ByteArray) (n : Nat) : Fit (s.skip ct n) := by
  refine ⟨?_, Nat.le_refl _⟩
  have h1 := phi_skip ct s.f s.k
  have h2 := h.1
  have h3 := h.2
  show phi (s.ps ++ skipPs ct s.f s.k) ≤ 3 * (s.k + n)
  rw [phi_append]; omega
theorem Fit.lay {s : St} (h : Fit s) (ct : ByteArray) (p : Pt) (n : Nat) (hp : cntP p + p.text.length ≤ 3 * n) : Fit (s.lay ct p n) := by
  refine ⟨?_, Nat.le_refl _⟩
  have h1 := phi_skip ct s.f s.k
  have h2 := h.1
  have h3 := h.2
  show phi ((s.ps ++ skipPs ct s.f s.k) ++ [p]) ≤ 3 * (s.k + n)
  rw [phi_append, phi_append, phi_cons, phi_nil]; omega
theorem cnt_plain (k : Int) (i t : List UInt8) (z : Nat) (a b : Bool) : cntP (.mk k i t [] z a b) = 1 := rfl
theorem phi_take_drop (l : List Pt) (j : Nat) : phi (l.take j) + phi (l.drop (j + 1)) ≤ phi l := by
  have h : phi l = phi (l.take j) + phi (l.drop j) := by rw [← phi_append, List.take_append_drop]
  rw [h]
  cases hd : l.drop j with
  | nil => rw [← List.drop_drop, hd]; simp [phi]
  | cons p r => rw [← List.drop_drop, hd, phi_cons]; show _ + phi r ≤ _; omega
theorem Fit.open {s : St} (h : Fit s) (ct : ByteArray) (t : List UInt8) (im : Bool) (ht : 1 ≤ t.length) : Fit (s.open ct t im) := by
  have := Fit.lay h ct (textPt t) t.length (by unfold textPt; rw [cnt_plain]; show 1 + t.length ≤ _; omega)
  exact this
theorem Fit.bracket {s : St} (h : Fit s) (ct : ByteArray) : Fit (s.bracket ct).2 := by
  unfold St.bracket
  split
  · unfold St.close
    split
    · exact h
    · rename_i o _
      split
      · refine ⟨?_, Nat.le_refl _⟩
        have h1 := phi_skip ct s.f s.k
        have h2 := h.1
        have h3 := h.2
        have h4 := phi_take_drop s.ps o.j
        have h5 := cnt_settle (s.ps.drop (o.j + 1) ++ skipPs ct s.f s.k)
        rw [phi_append] at h5
        show phi (s.ps.take o.j ++ [closePt _ o.image (s.ps.drop (o.j + 1) ++ skipPs ct s.f s.k)]) ≤ 3 * (s.k + (3 + _))
        rw [phi_append, phi_cons, phi_nil, cntP_eq]
        show phi (s.ps.take o.j) + (1 + cntL (settleT (s.ps.drop (o.j + 1) ++ skipPs ct s.f s.k)) + 0 + 0) ≤ _
        omega
      · exact h
  · split
    · exact h.open ct _ _ (by decide)
    · split
      · exact h.open ct _ _ (by decide)
      · exact h
theorem Fit.step {s : St} (h : Fit s) (ct : ByteArray) (hk : s.k < ct.size) : Fit (step ct s) := by
  rw [step_at ct s hk]
  have hs := same_at ct s.k hk
  unfold stepB
  split
  · split
    · exact h.lay ct _ _ (by decide)
    · split
      · exact (h.skip ct 1).text 1
      · exact h.text 1
  · split
    · split
      · rename_i v hv
        have hb := S.spanAt_bound _ _ _ (by rw [List.length_drop, S.length_data]; omega) hv
        refine h.lay ct _ _ ?_
        unfold spanPt; rw [cnt_plain]
        have := S.spanText_le ((ct.data.toList.drop (s.k + S.same (ct.data.toList.drop s.k))).take (v - S.same (ct.data.toList.drop s.k)))
        rw [List.length_take] at this
        show 1 + (S.spanText _).length ≤ _
        omega
      · exact h.text _
    · split
      · split
        · split
          · exact h.lay ct _ _ (by show 1 + 0 + 0 ≤ _; omega)
          · exact h.lay ct _ _ (by show 1 + 0 + 0 ≤ _; omega)
        · exact h.text _
      · split
        · exact h.lay ct _ _ (by decide)
        · split
          · split
            · exact h.lay ct _ _ (by show (1 + (1 + 0 + 0)) + 0 ≤ _; omega)
            · exact h.text 1
          · split
            · refine h.lay ct _ _ ?_
              unfold runPt; rw [cnt_plain]
              show 1 + ((ct.data.toList.drop s.k).take _).length ≤ _
              rw [List.length_take]; omega
            · split
              · split
                · exact h.bracket ct
                · exact (h.bracket ct).text 1
              · exact h.text 1
theorem ends_fit (ct : ByteArray) (s : St) (r : List Pt) (h : Ends ct s r) (hf : Fit s) : phi r ≤ 3 * ct.size := by
  induction h with
  | done s h => rw [← h]; have := (hf.skip ct 0).1; exact this
  | go s r h hr ih => exact ih (hf.step ct h)
theorem ends_one (ct : ByteArray) (s : St) (r r' : List Pt) (h : Ends ct s r) (h' : Ends ct s r') : r = r' := by
  induction h generalizing r' with
  | done s h =>
    cases h' with
    | done _ _ => rfl
    | go _ _ h2 _ => omega
  | go s r h hr ih =>
    cases h' with
    | done _ h2 => omega
    | go _ _ _ h3 => exact ih r' h3
/-- A cut's start. -/
def start0 : St := ⟨0, 0, [], []⟩
/-- What stands within a content. -/
noncomputable def contT (c : List UInt8) : List Pt := by
  classical exact if h : ∃ r, Ends (S.B c) start0 r then settleT (Classical.choose h) else []
theorem contT_eq (c : List UInt8) (r : List Pt) (h : Ends (S.B c) start0 r) : contT c = settleT r := by
  have hx : ∃ r, Ends (S.B c) start0 r := ⟨r, h⟩
  unfold contT
  rw [dif_pos hx, ends_one _ _ _ _ (Classical.choose_spec hx) h]
theorem contT_cnt (c : List UInt8) : cntL (contT c) ≤ 3 * c.length := by
  by_cases hx : ∃ r, Ends (S.B c) start0 r
  · obtain ⟨r, h⟩ := hx
    rw [contT_eq c r h]
    have h1 := cnt_settle r
    have h2 := ends_fit _ _ _ h ⟨Nat.le_refl _, Nat.le_refl _⟩
    rw [S.size_B] at h2
    omega
  · unfold contT; rw [dif_neg hx]; exact Nat.zero_le _
end Go.Proofs.YtlojgpkajkedeaaGreatDoor
