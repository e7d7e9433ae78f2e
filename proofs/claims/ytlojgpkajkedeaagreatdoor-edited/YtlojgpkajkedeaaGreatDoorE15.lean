import Derived.Test.YtlojgpkajkedeaaGreatDoorE11
import Derived.Test.YtlojgpkajkedeaaGreatDoorW17
/- The openings: Push. -/
namespace Go.Proofs.YtlojgpkajkedeaaGreatDoor
open Go.RowKit
theorem Tryz.infoOpn : (Tryz.prog.info? 253).map (fun i => (i.zero, i.size, i.bytes)) = some (some (.agg #[.pointer none, .bool false, .bool false]), 3, 16) := by kernel_rfl
theorem Ch.set5 {w : World} {C f k : Nat} {ct : ByteArray} {sl sl' : Value} {ms : List Mem} (h : Ch w C 3 168 (cutCells ct f k sl) ms) : Ch (w.setCell ⟨C, 5, none⟩ sl') C 3 168 (cutCells ct f k sl') ms :=
  ⟨h.seg.set_other _ h.out _, ⟨set_blk h.hdr.1 5 sl', by show 3 + 1 < 6; omega⟩, h.nodup, h.out⟩
def opn3 (ad : Addr) (im dd : Bool) : List Value := [.pointer (some ad), .bool im, .bool dd]
theorem opnCells_snoc (ms : List Mem) (m : Mem) (os : List Opn) (im : Bool) : opnCells (ms ++ [m]) (os ++ [⟨ms.length, im, false⟩]) = opnCells (ms ++ [m]) os ++ opn3 m.ad im false := by
  unfold opnCells opn3
  rw [List.map_append, List.flatten_append]
  simp
theorem opnCells_length (ms : List Mem) (os : List Opn) : (opnCells ms os).length = os.length * 3 := by
  unfold opnCells
  induction os with
  | nil => rfl
  | cons x r ih => simp only [List.map_cons, List.flatten_cons, List.length_append, ih, List.length_cons, List.length_nil]; omega

theorem Cut.pushed {C : Nat} {ct : ByteArray} {f k : Nat} {ms : List Mem} {m : Mem} {os : List Opn} {sa : Option Addr} {sc g cap1 : Nat} {A : Nat → Prop} {im : Bool} {w W w3 : World} (h : Cut C ct f k (ms ++ [m]) os sa sc A w) (hj : ∀ x ∈ os, x.j < ms.length) (hW : Below w.heap.size w W)
    (hown3 : w3.ownsRow (C + 1) 253 3 (.slice (some ⟨g, 0, none⟩) (os.length + 1) cap1) (os.length + 1) (opnCells (ms ++ [m]) os ++ opn3 m.ad im false)) (hgrow : W.grownBy w3 (Value.slice sa os.length sc).ownBlock) (hat : (Value.slice sa os.length sc).ownBlock = some g ∨ g = W.heap.size) :
    Cut C ct f k (ms ++ [m]) (os ++ [⟨ms.length, im, false⟩]) (some ⟨g, 0, none⟩) cap1 A (w3.setCell ⟨C, 5, none⟩ (.slice (some ⟨g, 0, none⟩) (os.length + 1) cap1)) ∧ Below C w (w3.setCell ⟨C, 5, none⟩ (.slice (some ⟨g, 0, none⟩) (os.length + 1) cap1)) := by
  have hlt := h.own.lt
  have hcl := h.lt
  have hsW := hW.size
  have hs3 := hgrow.size
  have hblk : ∀ x, x < w.heap.size → some x ≠ (Value.slice sa os.length sc).ownBlock → w3.heap[x]? = w.heap[x]? := fun x hx hne => by
    rw [hgrow.block x (by omega) hne, hW.block x hx]
  have hC0 : some C ≠ (Value.slice sa os.length sc).ownBlock := fun e => by have := (hlt C e.symm).1; omega
  have hmb : ∀ x ∈ C :: blks (ms ++ [m]), w3.heap[x]? = w.heap[x]? := fun x hx => by
    rcases List.mem_cons.1 hx with rfl | hx
    · exact hblk _ hcl hC0
    · exact hblk x (h.ch.mlt x hx) (h.sep x hx)
  have hch3 : Ch w3 C 3 168 (cutCells ct f k (.slice sa os.length sc)) (ms ++ [m]) := h.ch.move hmb
  have hfar : ∀ x, x < w.heap.size → some x ≠ (Value.slice sa os.length sc).ownBlock → some x ≠ (Value.slice (some ⟨g, 0, none⟩) (os.length + 1) cap1).ownBlock := fun x hx hne e => by
    have hgo : (Value.slice (some (⟨g, 0, none⟩ : Addr)) (os.length + 1) cap1).ownBlock = some g := rfl
    rw [hgo] at e
    cases e
    rcases hat with hat | hat
    · exact hne hat.symm
    · omega
  have hln : (os ++ [(⟨ms.length, im, false⟩ : Opn)]).length = os.length + 1 := by simp
  refine ⟨⟨?_, ?_, ?_, ?_, ?_, h.above, ?_, ?_, h.fk, h.kl, h.small, h.bytes, h.runs⟩, ?_⟩
  · rw [hln]; exact hch3.set5
  · intro e he
    exact (h.kids e he).move (fun x hx => hx) (fun x hx => by
      have hd := h.dead x hx
      rw [Below.heap_setCell _ _ _ _ (fun (e : x = C) => hd.2.1 (by rw [e]; exact List.mem_cons_self))]
      exact hblk x hd.1 hd.2.2)
  · intro x hx
    have hd := h.dead x hx
    refine ⟨?_, hd.2.1, ?_⟩
    · have : (w3.setCell ⟨C, 5, none⟩ (.slice (some ⟨g, 0, none⟩) (os.length + 1) cap1)).heap.size = w3.heap.size := by simp [World.setCell]
      omega
    · rw [hln]; exact hfar x hd.1 hd.2.2
  · rw [hln, opnCells_snoc]; exact ownsRow_setCell_below hown3 (by simp) _
  · intro x hx; rw [hln]; exact hfar x (h.ch.mlt x hx) (h.sep x hx)
  · intro x hx
    rcases List.mem_append.1 hx with hx | hx
    · exact h.inl x hx
    · simp at hx; subst hx; simp
  · rw [List.pairwise_append]
    exact ⟨h.up, by simp, fun x hx y hy => by simp at hy; subst hy; exact hj x hx⟩
  · exact Below.setCell (Below.grown (hW.mono (Nat.le_of_lt hcl)) hgrow (by omega) (fun q hq => by have := (hlt q hq).1; omega)) (by simp) _

set_option maxRecDepth 100000 in
set_option maxHeartbeats 4000000 in
theorem push_any (C : Nat) (ct : ByteArray) (f k : Nat) (ms : List Mem) (os : List Opn) (sa : Option Addr) (sc : Nat) (A : Nat → Prop) (m : Mem) (im : Bool) (w : World) (h : Cut C ct f k (ms ++ [m]) os sa sc A w) (hj : ∀ x ∈ os, x.j < ms.length) (hol : os.length ≤ 1000000) :
    Calls Tryz.prog 241 #[.pointer (some ⟨C, 5, none⟩), .agg #[.pointer (some ⟨m.m, 0, none⟩), .bool im, .bool false]] w fun e w' => ∃ sa' sc', e = .returned (.tuple #[]) ∧ Cut C ct f k (ms ++ [m]) (os ++ [⟨ms.length, im, false⟩]) sa' sc' A w' ∧ Below C w w' := by
  obtain ⟨i0, hi, hz0, hz1, hz2⟩ := info_parts Tryz.infoOpn
  have hcc := h.cells
  have hcl := h.lt
  have hlt := h.own.lt
  obtain ⟨wb, hwb⟩ : ∃ wb, wb = w.alloc (.cells #[.pointer (some ⟨m.m, 0, none⟩), .bool im, .bool false] 253) := ⟨_, rfl⟩
  have hbs : wb.heap.size = w.heap.size + 1 := by rw [hwb]; simp
  have hbb : Below w.heap.size w wb := by rw [hwb]; exact (Below.refl _ _).alloc (Nat.le_refl _) _
  have hbx : wb.heap[w.heap.size]? = some (.cells #[.pointer (some ⟨m.m, 0, none⟩), .bool im, .bool false] 253 (0, 0)) := by rw [hwb]; exact alloc_new _ _
  have hcb : wb.heap[C]? = _ := (hbb.block C hcl).trans hcc
  have q5 : wb.cell? ⟨C, 5, none⟩ = some (.slice sa os.length sc) := cell_blk hcb 5 _ rfl
  have x0 : wb.cell? ⟨w.heap.size, 0, none⟩ = some (.pointer (some ⟨m.m, 0, none⟩)) := cell_blk hbx 0 _ rfl
  have x1 : wb.cell? ⟨w.heap.size, 1, none⟩ = some (.bool im) := cell_blk hbx 1 _ rfl
  have x2 : wb.cell? ⟨w.heap.size, 2, none⟩ = some (.bool false) := cell_blk hbx 2 _ rfl
  have hown := hid (fun o => ((h.below hbb).own.alloc o))
  have hnew : Hid (∀ (wx : World) (B : Nat), wx.heap[B]? = some (.cells #[.pointer (some ⟨m.m, 0, none⟩), .bool im, .bool false] 253 (0, 0)) → ∀ j u, (opn3 m.ad im false)[j]? = some u → wx.cell? ((⟨B, 0, none⟩ : Addr).add j) = some u) := hid (fun wx B hB j u hu => World.news_of_block hB j u hu)
  have hone : Hid (∀ u ∈ opn3 m.ad im false, u.oneCell' = true) := hid (by
    intro u hu; simp [opn3] at hu; rcases hu with rfl | rfl | rfl <;> rfl)
  have hH := hid h
  have hWb : Hid (∀ o, Below w.heap.size w (wb.drew.alloc o)) := hid (fun o => hbb.drew.alloc (by show w.heap.size ≤ wb.heap.size; omega) _)
  have hCg : Hid (∀ o w3, (wb.drew.alloc o).grownBy w3 (Value.slice sa os.length sc).ownBlock → w3.heap[C]? = some (.cells [.string ct, .int .i64 (f : Nat), .int .i64 (k : Nat), .pointer (hd (ms ++ [m]) none), .pointer (lst (ms ++ [m]) none), .slice sa os.length sc].toArray 168 (0, 0))) := hid (fun o w3 hg => by
    rw [hg.block C (by have := (hWb.out o).size; omega) (fun e => by have := (hlt C e.symm).1; omega), (hWb.out o).block C hcl]; exact hcc)
  have hbsH := hid hbs
  have q5a : ∀ o, (wb.alloc o).cell? ⟨C, 5, none⟩ = some (.slice sa os.length sc) := fun o => cell_blk ((Below.heap_alloc wb o C (by omega)).trans hcb) 5 _ rfl
  have hbase : C + 1 ≤ wb.heap.size := by omega
  clear h hcc hcb hbx hlt hbs
  go_enter Tryz.func241, Tryz.ntmps241
  go_wp2_with fail
  rw [← hwb]
  clear hwb hbb
  go_region_law ((refine step_append_lies _ (by rfl) _ _ 164 (by rfl) (C + 1) 253 i0 (.agg #[.pointer none, .bool false, .bool false]) 3 16 Tryz.underlying164 hi hz0 hz1 hz2 (by rfl) (by omega) (.slice sa os.length sc) os.length (opnCells (ms ++ [m]) os) (by rfl) (hown.out _) ⟨wb.heap.size, 0, none⟩ 1 1 (opn3 m.ad im false) (by rfl) (by rfl) (hnew.out _ _ (alloc_new _ _)) hone.out (by omega) (by unfold maxLen; omega) (by omega) (by simp; omega) (wb.heap.size + 1) (by simp) ?_; intro g cap1 w3 hown3 hgrow hat hltg; have hc3 := hCg.out _ w3 hgrow; have k5 : w3.cell? ⟨C, 5, none⟩ = some (.slice sa os.length sc) := cell_blk hc3 5 _ rfl; have f5 := free_blk hc3))
  all_goals (have hp := hid (hH.out.pushed hj (hWb.out _) hown3 hgrow (by have := hat; simpa using this)))
  all_goals clear hown3 hgrow hat hc3
  all_goals go_end0
  all_goals exact ⟨_, _, rfl, hp.out.1, hp.out.2⟩

set_option maxRecDepth 100000 in
set_option maxHeartbeats 4000000 in
theorem pop_none (C : Nat) (ct : ByteArray) (f k : Nat) (ms : List Mem) (sa : Option Addr) (sc : Nat) (A : Nat → Prop) (w : World) (h : Cut C ct f k ms [] sa sc A w) :
    Calls Tryz.prog 236 #[.pointer (some ⟨C, 5, none⟩)] w fun e w' => e = .returned (.tuple #[.agg #[.pointer none, .bool false, .bool false], .bool false]) ∧ Below w.heap.size w w' := by
  have hcc := h.cells
  have hcl := h.lt
  have q5 : w.cell? ⟨C, 5, none⟩ = some (.slice sa 0 sc) := cell_blk hcc 5 _ rfl
  have q5a : ∀ o, (w.alloc o).cell? ⟨C, 5, none⟩ = some (.slice sa 0 sc) := fun o => cell_blk ((Below.heap_alloc w o C hcl).trans hcc) 5 _ rfl
  clear h hcc
  go_enter Tryz.func236, Tryz.ntmps236
  go_wp2
  exact bodyPost_ret (v := .tuple #[.agg #[.pointer none, .bool false, .bool false], .bool false]) (by simp [results, Tryz.results236, go_sem]) rfl ⟨rfl, (Below.refl _ _).alloc (Nat.le_refl _) _⟩

theorem opnCells_last (ms : List Mem) (os : List Opn) (o : Opn) : opnCells ms (os ++ [o]) = opnCells ms os ++ [Value.pointer ((ms[o.j]?).map Mem.ad), .bool o.image, .bool o.dead] := by
  unfold opnCells
  rw [List.map_append, List.flatten_append]
  simp

theorem Cut.popped {C : Nat} {ct : ByteArray} {f k : Nat} {ms : List Mem} {os : List Opn} {o : Opn} {sa : Option Addr} {sc : Nat} {A : Nat → Prop} {w : World} (h : Cut C ct f k ms (os ++ [o]) sa sc A w) :
    Cut C ct f k ms os sa sc A (w.setCell ⟨C, 5, none⟩ (.slice sa os.length sc)) := by
  have hln : (os ++ [o]).length = os.length + 1 := by simp
  have hlt := h.own.lt
  have hown := h.own
  have hob : (Value.slice sa (os ++ [o]).length sc).ownBlock = (Value.slice sa os.length sc).ownBlock := by cases sa <;> rfl
  have hown' : w.ownsRow (C + 1) 253 3 (.slice sa os.length sc) os.length (opnCells ms os) := by
    rcases hown.2 with ⟨_, h0⟩ | ⟨g, cap, cur, hv, hg, hh, hc1, hc2, hc3, ht⟩
    · rw [hln] at h0; omega
    · have hsa : sa = some ⟨g, 0, none⟩ := by injection hv
      have hsc : sc = cap := by injection hv
      subst hsa hsc
      refine ⟨by rw [opnCells_length], .inr ⟨g, sc, cur, rfl, hg, hh, by rw [hln] at hc1; omega, hc2, hc3, ?_⟩⟩
      have h1 := congrArg (List.take (os.length * 3)) ht
      rw [opnCells_last, List.take_append_of_le_length (by rw [opnCells_length]; omega), List.take_of_length_le (l := opnCells ms os) (by rw [opnCells_length]; omega), List.take_take] at h1
      rw [← h1, hln]
      congr 1
      omega
  refine ⟨h.ch.set5, ?_, ?_, ownsRow_setCell_below hown' (by simp) _, ?_, h.above, ?_, ?_, h.fk, h.kl, h.small, h.bytes, h.runs⟩
  · intro e he
    exact (h.kids e he).move (fun x hx => hx) (fun x hx => by
      have hd := h.dead x hx
      exact Below.heap_setCell _ _ _ _ (fun (e : x = C) => hd.2.1 (by rw [e]; exact List.mem_cons_self)))
  · intro x hx
    have hd := h.dead x hx
    rw [hob] at hd
    exact ⟨by simp [World.setCell]; exact hd.1, hd.2⟩
  · intro x hx; rw [← hob]; exact h.sep x hx
  · intro x hx; exact h.inl x (List.mem_append_left _ hx)
  · exact (List.pairwise_append.1 h.up).1

set_option maxRecDepth 100000 in
set_option maxHeartbeats 4000000 in
theorem pop_some (C : Nat) (ct : ByteArray) (f k : Nat) (ms : List Mem) (os : List Opn) (o : Opn) (sa : Option Addr) (sc : Nat) (A : Nat → Prop) (w : World) (h : Cut C ct f k ms (os ++ [o]) sa sc A w) (hol : os.length ≤ 1000000) :
    Calls Tryz.prog 236 #[.pointer (some ⟨C, 5, none⟩)] w fun e w' => e = .returned (.tuple #[.agg #[.pointer ((ms[o.j]?).map Mem.ad), .bool o.image, .bool o.dead], .bool true]) ∧ Cut C ct f k ms os sa sc A w' ∧ Fr [C] w w' := by
  have hcc := h.cells
  have hcl := h.lt
  have hln : (os ++ [o]).length = os.length + 1 := by simp
  obtain ⟨g, cap, hv, hg, hgl⟩ := h.own.form (by omega)
  have hsa : sa = some ⟨g, 0, none⟩ := by injection hv
  have hcap : os.length + 1 ≤ sc := by
    rcases h.own.2 with ⟨h1, h0⟩ | ⟨g', cap', cur, hv', _, _, hc1, _⟩
    · rw [hln] at h0; omega
    · have : sc = cap' := by injection hv'
      rw [hln] at hc1; omega
  have hcell := fun j u => h.own.cells (g := g) (by rw [hsa]; rfl) j u
  subst hsa
  rw [hln] at hcc
  have hadd : ∀ j, (⟨g, 0, none⟩ : Addr).add j = ⟨g, j, none⟩ := fun j => by unfold Addr.add; split <;> simp_all
  have hat3 : ∀ i u, ([Value.pointer ((ms[o.j]?).map Mem.ad), .bool o.image, .bool o.dead] : List Value)[i]? = some u → ∀ ob, w.cell? ⟨g, os.length * 3 + i, none⟩ = some u ∧ (w.alloc ob).cell? ⟨g, os.length * 3 + i, none⟩ = some u := fun i u hu ob => by
    have := hcell (os.length * 3 + i) u (by rw [opnCells_last, List.getElem?_append_right (by rw [opnCells_length]; omega), opnCells_length, show os.length * 3 + i - os.length * 3 = i by omega]; exact hu)
    rw [hadd] at this
    exact ⟨this, (cell_same (Below.heap_alloc w ob g hgl) _).trans this⟩
  have c0 := fun ob => (hat3 0 _ rfl ob).2
  have c1 := fun ob => (hat3 1 _ rfl ob).2
  have c2 := fun ob => (hat3 2 _ rfl ob).2
  rw [Nat.add_zero] at c0
  have hne : (((os.length : Nat) : Int) + 1 == 0) = false := by simp; omega
  clear hat3 hadd
  clear hcell hv
  have q5 : w.cell? ⟨C, 5, none⟩ = some (.slice (some ⟨g, 0, none⟩) (os.length + 1) sc) := cell_blk hcc 5 _ rfl
  have qf := free_blk hcc
  have q5a : ∀ o, (w.alloc o).cell? ⟨C, 5, none⟩ = some (.slice (some ⟨g, 0, none⟩) (os.length + 1) sc) := fun o => cell_blk ((Below.heap_alloc w o C hcl).trans hcc) 5 _ rfl
  have hH := hid h
  clear h hcc
  go_enter Tryz.func236, Tryz.ntmps236
  go_wp2_with fail
  refine bodyPost_ret (v := .tuple #[.agg #[.pointer ((ms[o.j]?).map Mem.ad), .bool o.image, .bool o.dead], .bool true]) (by simp [results, Tryz.results236, go_sem]) rfl ⟨rfl, ?_, ?_⟩
  · exact hH.out.popped.below ((Below.refl _ _).alloc (Nat.le_refl _) _)
  · exact ((Fr.refl _ w).setCell _ (.inl (by simp)) _).alloc _

set_option maxRecDepth 100000 in
set_option maxHeartbeats 4000000 in
theorem open_any (C : Nat) (ct t : ByteArray) (im : Bool) (f k : Nat) (ms : List Mem) (os : List Opn) (sa : Option Addr) (sc : Nat) (A : Nat → Prop) (w : World) (h : Cut C ct f k ms os sa sc A w) (hk : k + t.size ≤ ct.size) (him : (t.toList == [33, 91]) = im) (hol : os.length ≤ 1000000) :
    Calls Tryz.prog 204 #[.pointer (some ⟨C, 0, none⟩), .string t] w fun e w' => ∃ m1 m2 sa' sc', e = .returned (.tuple #[]) ∧ w.heap.size ≤ m1 ∧ w.heap.size ≤ m2 ∧ Cut C ct (k + t.size) (k + t.size) ((ms ++ skipMs ct f k m1) ++ [⟨m2, textPt t.data.toList, none, none⟩]) (os ++ [⟨(ms ++ skipMs ct f k m1).length, im, false⟩]) sa' sc' A w' ∧ Below C w w' := by
  have hcl := h.lt
  have hcc := h.cells
  have hsm := h.small
  have hL := hid (lay_any C ct f k t.size ms os sa sc A (textPt t.data.toList) none none w h hk (by simp [textPt, Pt.text]) (by simp [textPt, Pt.rs]) .nil)
  subst him
  rw [show partV (textPt t.data.toList) none none = .agg #[.int .i64 8, .string ⟨#[]⟩, .string t, .pointer none, .pointer none, .int .i64 0, .bool false, .bool false] by simp only [partV, textPt, Pt.kind, Pt.info, Pt.text, Pt.rs, Pt.ro, Pt.rc, S.B_data]; rfl] at hL
  have hH := hid h
  clear h hcc
  go_enter Tryz.func204, Tryz.ntmps204
  go_wp2_with fail
  refine hL.out.mono ?_
  rintro e w1 ⟨m1, m2, rfl, hm1, hm2, hC1, hf1⟩
  have hP := hid (fun (wx : World) (hx : Below w1.heap.size w1 wx) => push_any C ct (k + t.size) (k + t.size) (ms ++ skipMs ct f k m1) os sa sc A ⟨m2, textPt t.data.toList, none, none⟩ (t.toList == [33, 91]) wx (hC1.below hx) (fun x hx => by have := hH.out.inl x hx; simp; omega) hol)
  have hfH := hid hf1
  clear hC1 hf1
  go_wp2_with fail
  refine (hP.out w1 (Below.refl _ _)).mono ?_
  rintro e w2 ⟨sa', sc', rfl, hC2, hb2⟩
  have hall := hid (And.intro hC2 hb2)
  clear hC2 hb2
  go_wp2
  go_end0
  exact ⟨m1, m2, sa', sc', rfl, hm1, hm2, hall.out.1, (hH.out.frBelow hfH.out).trans hall.out.2⟩
end Go.Proofs.YtlojgpkajkedeaaGreatDoor
