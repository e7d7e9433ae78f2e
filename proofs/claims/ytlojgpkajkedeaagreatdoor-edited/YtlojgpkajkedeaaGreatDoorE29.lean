import Derived.Test.YtlojgpkajkedeaaGreatDoorE26
import Derived.Test.YtlojgpkajkedeaaGreatDoorE27
import Derived.Test.YtlojgpkajkedeaaGreatDoorE18
/- within.Read, appendContent: every content. -/
namespace Go.Proofs.YtlojgpkajkedeaaGreatDoor
open Go.RowKit

/-- A block that holds a member of a chain of parts. -/
def Tag (w : World) (x : Nat) : Prop := ∃ cs : Array Value, w.heap[x]? = some (.cells cs 179 (0, 0))
theorem KRep.tag {w : World} {A : Nat → Prop} {a : Option Addr} {ps : List Pt} (h : KRep w A a ps) : KRep w (Tag w) a ps := by
  induction h with
  | nil => exact .nil
  | cons e ah be r ha hb hk hr ih1 ih2 => exact .cons e ah be r ⟨_, hb⟩ hb ih1 ih2
theorem Tag.lt {w : World} {x : Nat} (h : Tag w x) : x < w.heap.size := by
  obtain ⟨cs, h⟩ := h
  exact (Array.getElem?_eq_some_iff.1 h).1
theorem Tag.ne {w : World} {x y T : Nat} {cs : Array Value} (h : Tag w x) (hy : w.heap[y]? = some (.cells cs T (0, 0))) (hT : T ≠ 179) : x ≠ y := by
  rintro rfl
  obtain ⟨cs', h⟩ := h
  rw [h] at hy
  simp only [Option.some.injEq, Obj.cells.injEq] at hy
  exact hT hy.2.1.symm
theorem KRep.retag {w w' : World} {a : Option Addr} {ps : List Pt} (h : KRep w (Tag w) a ps) (hw : ∀ x, Tag w x → w'.heap[x]? = w.heap[x]?) : KRep w' (Tag w') a ps :=
  (h.move (fun _ hx => hx) hw).tag

theorem start_at (C : Nat) (ct : ByteArray) (w : World) (hs : ct.size ≤ 1000000) (hx : w.heap[C]? = some (.cells #[.string ct, .int .i64 0, .int .i64 0, .pointer none, .pointer none, .slice none 0 0] 168 (0, 0))) (henv : Env w) (hE : EnvC C) : At C ct w start0 w := by
  refine ⟨⟨[], none, 0, fun _ => False, ?_, rfl⟩, Below.refl _ _, henv, hE, Nat.zero_le _⟩
  refine ⟨⟨trivial, ⟨hx, by show 3 + 1 < 6; omega⟩, List.nodup_nil, by simp [blks]⟩, fun e he => by simp at he, fun _ hx => hx.elim, World.ownsRow_nil _ _ _ _, fun x hx => by simp [blks] at hx, fun x hx => by simp [blks] at hx, fun x hx => by simp [start0] at hx, List.Pairwise.nil, Nat.le_refl _, Nat.zero_le _, hs, Nat.le_refl _, fun x hx => by simp at hx⟩

set_option maxRecDepth 100000 in
set_option maxHeartbeats 4000000 in
theorem within_any (ct : ByteArray) (w : World) (hs : ct.size ≤ 1000000) (henv : Env w) :
    Calls Tryz.prog 80 #[.string ct] w fun e w' =>
      ∃ kf kl, e = .returned (.agg #[.pointer kf, .pointer kl]) ∧ KRep w' (Tag w') kf (contT ct.data.toList) ∧ Below w.heap.size w w' := by
  obtain ⟨w2, hw2⟩ : ∃ w2, w2 = (w.alloc (.cells #[.pointer none, .pointer none] 135)).alloc (.cells #[.string ct, .int .i64 0, .int .i64 0, .pointer none, .pointer none, .slice none 0 0] 168) := ⟨_, rfl⟩
  have hs1 : (w.alloc (.cells #[.pointer none, .pointer none] 135)).heap.size = w.heap.size + 1 := by simp
  have hs2 : w2.heap.size = w.heap.size + 2 := by rw [hw2]; simp
  have hC : w2.heap[w.heap.size + 1]? = some (.cells #[.string ct, .int .i64 0, .int .i64 0, .pointer none, .pointer none, .slice none 0 0] 168 (0, 0)) := by rw [hw2, ← hs1]; exact alloc_new _ _
  have hR : w2.heap[w.heap.size]? = some (.cells #[.pointer none, .pointer none] 135 (0, 0)) := by rw [hw2, Below.heap_alloc _ _ _ (by simp)]; exact alloc_new _ _
  have hb2 : Below w.heap.size w w2 := by rw [hw2]; exact ((Below.refl _ _).alloc (Nat.le_refl _) _).alloc (by simp) _
  have hK := hid (cut_any (w.heap.size + 1) ct start0 w2 (start_at _ ct w2 hs hC (henv.below hb2) ⟨Nat.lt_succ_of_lt henv.2.2.1, Nat.lt_succ_of_lt henv.2.2.2⟩))
  have hRH := hid hR
  have hb2H := hid hb2
  have hw2H := hid hw2
  clear hC hR hb2 hs1 hs2 hw2 henv
  go_enter Tryz.func80, Tryz.ntmps80
  go_wp2_with fail
  rw [← hw2H.out]
  refine hK.out.mono ?_
  rintro e w3 ⟨rfl, s, hA, hE⟩
  obtain ⟨ms, sa, sc, A, hcut, hmp⟩ := hA.cut
  have hab := hcut.above
  have hSt := hid (settle_any (w.heap.size + 1) 3 168 _ ms A w3 hcut.ch hcut.kids (fun x hx => ⟨(hcut.dead x hx).1, (hcut.dead x hx).2.1⟩) (by have := hcut.bytes; have := hcut.fk; have := hcut.kl; have := hcut.small; omega) hcut.runs)
  have hcutH := hid hcut
  have hAH := hid hA
  have hE' : Hid (contT ct.data.toList = settleT (ms.map Mem.p)) := hid (by
    rw [hmp]; exact contT_eq _ _ (by rw [S.B_data]; exact hE))
  have habH := hid hab
  clear hA hE hcut hmp hab
  go_wp2_with fail
  refine hSt.out.mono ?_
  rintro e w4 ⟨l', A', rfl, hS⟩
  have hb3 : Below (w.heap.size + 1) w2 w3 := hAH.out.below
  have hb4 : Below (w.heap.size + 1) w3 w4 := hS.fr.below (by have := hcutH.out.lt; omega) (fun x hx => by
    rcases List.mem_cons.1 hx with rfl | hx
    · exact Nat.le_refl _
    · exact Nat.le_of_lt (habH.out x hx))
  have hR4 := (hb4.block w.heap.size (by omega)).trans ((hb3.block w.heap.size (by omega)).trans hRH.out)
  have hC4 := hS.ch.hdr.1
  obtain ⟨f1, hf1⟩ : ∃ f1, hd l' none = f1 := ⟨_, rfl⟩
  obtain ⟨l1, hl1⟩ : ∃ l1, lst l' none = l1 := ⟨_, rfl⟩
  rw [hf1, hl1] at hC4
  have p3 : w4.cell? ⟨w.heap.size + 1, 3, none⟩ = some (.pointer f1) := cell_blk hC4 3 _ rfl
  have p4 : w4.cell? ⟨w.heap.size + 1, 4, none⟩ = some (.pointer l1) := cell_blk hC4 4 _ rfl
  have r0 : w4.cell? ⟨w.heap.size, 0, none⟩ = some (.pointer none) := cell_blk hR4 0 _ rfl
  have r1 : w4.cell? ⟨w.heap.size, 1, none⟩ = some (.pointer none) := cell_blk hR4 1 _ rfl
  have g := free_blk hR4
  have hR4H := hid hR4
  have hbb : Hid (Below w.heap.size w w4) := hid (hb2H.out.trans ((hb3.mono (Nat.le_succ _)).trans (hb4.mono (Nat.le_succ _))))
  have hz3 : Hid (w.heap.size + 1 < w3.heap.size) := hid (by have := hcutH.out.lt; omega)
  have hKR : Hid (KRep w4 (fun x => A' x ∨ x ∈ blks l') f1 (contT ct.data.toList)) := hid (by
    rw [hE'.out, ← hS.part, ← hf1]
    exact krep_of_seg hS.ch.seg (fun e he => .inr (List.mem_map.2 ⟨e, he, rfl⟩)) (fun e he => (hS.kids e he).move (fun x hx => .inl hx) (fun _ _ => rfl)))
  have hfl : Hid (∀ w5 : World, (∀ x, x ≠ w.heap.size → w5.heap[x]? = w4.heap[x]?) → KRep w5 (Tag w5) f1 (contT ct.data.toList)) := hid (fun w5 h5 =>
    hKR.out.tag.retag (fun x hx => h5 x (hx.ne hR4H.out (by decide))))
  clear hb3 hb4 hR4 hC4 hS hf1 hl1
  go_wp2
  have z := set_blk (set_blk (cs := [.pointer none, .pointer none]) hR4H.out 0 (.pointer f1)) 1 (.pointer l1)
  have z0 := cell_blk z 0 _ rfl
  have z1 := cell_blk z 1 _ rfl
  refine bodyPost_ret (v := .agg #[.pointer f1, .pointer l1]) (by simp [results, Tryz.results80, go_sem, z0, z1]) rfl ⟨f1, l1, rfl, hfl.out _ (fun x hx => ?_), ?_⟩
  · rw [Below.heap_setCell _ _ _ _ hx, Below.heap_setCell _ _ _ _ hx]
  · exact Below.setCell (Below.setCell hbb.out (by simp) _) (by simp) _

noncomputable def contN (c : List UInt8) (d : Nat) : List Nd := ptsNds d (contT c)

theorem contN_len (c : List UInt8) (d : Nat) : (contN c d).length ≤ 3 * c.length := by
  unfold contN; rw [ptsNds_len]; exact contT_cnt c

set_option maxHeartbeats 4000000 in
theorem content_ok (c : List UInt8) (hc : c.length ≤ 300000) (B : Nat) (k li : Int) (la : Option Addr) (lz lc : Nat) (n : Int) (info : ByteArray) (loose : Bool) (ka : Option Addr) (kn kc : Nat) (depth : Nat) (a : Option Addr) (cp : Nat) (l : List Nd) (w : World) (henv : Env w) (hk : k = 1 ∨ k = 2) (hB : B ≤ w.heap.size) (hown : OwnsN B a cp l w) (hl : (l ++ contN c depth).length ≤ 1000000) (hd : depth ≤ 90000) :
    Calls Tryz.prog 63 #[.slice a l.length cp, .agg #[.int .i64 k, .int .i64 li, .slice la lz lc, .int .i64 n, .string info, .string (S.B c), .bool loose, .slice ka kn kc], .int .i64 (depth : Nat)] w (Laid B (Value.slice a l.length cp).ownBlock (l ++ contN c depth) w) := by
  have hbx : ∀ o, Below w.heap.size w (w.alloc o) := fun o => (Below.refl _ _).alloc (Nat.le_refl _) _
  have hW := hid (fun o => within_any (S.B c) (w.alloc o) (by rw [S.size_B]; omega) (henv.alloc o))
  rw [S.data_B] at hW
  have hcn := contT_cnt c
  have hP : Hid (∀ o kf kl w3, KRep w3 (Tag w3) kf (contT c) → Below (w.alloc o).heap.size (w.alloc o) w3 → Calls Tryz.prog 83 #[.slice a l.length cp, .agg #[.pointer kf, .pointer kl], .int .i64 (depth : Nat)] w3 (Laid B (Value.slice a l.length cp).ownBlock (l ++ contN c depth) w)) := hid (by
    intro o kf kl w3 h3 h4
    have hs : (w.alloc o).heap.size = w.heap.size + 1 := by simp
    have hb : Below w.heap.size w w3 := (hbx o).trans (h4.mono (by omega))
    have hlt := hown.lt
    have hown3 := hown.below hb
    refine (appendParts_any (3 * c.length) (contT c) hcn B (Tag w3) kf kl a cp l depth w3 (by have := hb.size; omega) hown3 hl (by omega) h3 (fun x hx => ⟨hx.lt, fun e => ?_⟩)).mono ?_
    · rcases hown3.2 with h2 | ⟨g, cap, cur, hv, hg, hh, _⟩
      · rw [h2.1] at e; simp [Value.ownBlock] at e
      · have hgo : (Value.slice a l.length cp).ownBlock = some g := by rw [hv]; rfl
        rw [hgo] at e
        exact hx.ne hh (by decide) (by simpa using e)
    · rintro e w' ⟨a', cp', h5, h6, h7, h8⟩
      exact ⟨a', cp', h5, h6, grown_trans (grown_below hb _) h7 (fun g h => .inl h), fun g hg => (h8 g hg).imp id (fun h => Nat.le_trans hb.size h)⟩)
  have hlen : Hid ((l ++ contN c depth).length = (l ++ contN c depth).length) := hid rfl
  clear hbx hown henv hcn hl
  obtain ⟨L, hL⟩ : ∃ L, L = l ++ contN c depth := ⟨_, rfl⟩
  rw [← hL] at hP ⊢
  clear hL hlen
  rcases hk with rfl | rfl
  · go_enter Tryz.func63, Tryz.ntmps63
    go_wp2_with fail
    refine (hW.out _).mono ?_
    rintro e w3 ⟨kf, kl, rfl, hM, hb3⟩
    have hPP := hid (hP.out _ kf kl w3 hM hb3)
    clear hM hb3
    go_wp2_with fail
    refine hPP.out.mono ?_
    rintro e w' ⟨a', cp', rfl, h6, h7, h8⟩
    have h6H := hid h6
    have h7H := hid h7
    have h8H := hid h8
    clear h6 h7 h8
    go_wp2
    go_ret
    exact ⟨a', cp', rfl, h6H.out, h7H.out, h8H.out⟩
  · go_enter Tryz.func63, Tryz.ntmps63
    go_wp2_with fail
    refine (hW.out _).mono ?_
    rintro e w3 ⟨kf, kl, rfl, hM, hb3⟩
    have hPP := hid (hP.out _ kf kl w3 hM hb3)
    clear hM hb3
    go_wp2_with fail
    refine hPP.out.mono ?_
    rintro e w' ⟨a', cp', rfl, h6, h7, h8⟩
    have h6H := hid h6
    have h7H := hid h7
    have h8H := hid h8
    clear h6 h7 h8
    go_wp2
    go_ret
    exact ⟨a', cp', rfl, h6H.out, h7H.out, h8H.out⟩
/-- A content of no more than so many bytes. -/
def isC (c : List UInt8) : Prop := c.length ≤ 300000
theorem contOK_any (c : List UInt8) (h : isC c) : ContOK c (contN c) :=
  fun B k li la lz lc n info loose ka kn kc depth a cp l w henv hk hB hown hl hd => content_ok c h B k li la lz lc n info loose ka kn kc depth a cp l w henv hk hB hown hl hd
end Go.Proofs.YtlojgpkajkedeaaGreatDoor
