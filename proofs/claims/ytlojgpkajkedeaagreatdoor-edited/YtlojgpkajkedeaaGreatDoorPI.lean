import Derived.Test.YtlojgpkajkedeaaGreatDoorPG
/- Lists, blocks, a row of blocks: as a page bears them. -/
namespace Go.Proofs.YtlojgpkajkedeaaGreatDoor
open Go.RowKit

theorem pgL_len (ts : List S.Blk) : 120 * ts.length ≤ pgL ts := by
  induction ts with
  | nil => simp [pgL]
  | cons b r ih => have := pgB_eq b; simp only [pgL, List.length_cons]; omega
/-- What a row of blocks in memory is, seen at one of them. -/
theorem rep_view {w : World} {A : Nat → Prop} {ka : Option Addr} {kn kc : Nat} {ts : List S.Blk} (h : Rep w A (.slice ka kn kc) ts) : kn = ts.length ∧ ∀ (i : Nat) (t : S.Blk), ts[i]? = some t → ∃ (g o : Nat) (la : Option Addr) (lz lc : Nat) (kv : Value), ka = some ⟨g, o, none⟩ ∧ A g ∧ Rep w A kv t.kids ∧
    w.cell? ⟨g, o + i * 8, none⟩ = some (.int .i64 t.kind) ∧ w.cell? ⟨g, o + i * 8 + 1, none⟩ = some (.int .i64 t.line) ∧ w.cell? ⟨g, o + i * 8 + 2, none⟩ = some (.slice la lz lc) ∧ w.cell? ⟨g, o + i * 8 + 3, none⟩ = some (.int .i64 t.n) ∧ w.cell? ⟨g, o + i * 8 + 4, none⟩ = some (.string (S.B t.info)) ∧ w.cell? ⟨g, o + i * 8 + 5, none⟩ = some (.string (S.B t.text)) ∧ w.cell? ⟨g, o + i * 8 + 6, none⟩ = some (.bool t.loose) ∧ w.cell? ⟨g, o + i * 8 + 7, none⟩ = some kv := by
  obtain ⟨v, hv⟩ : ∃ v, v = Value.slice ka kn kc := ⟨_, rfl⟩
  rw [← hv] at h
  cases h with
  | nil => injection hv with h1 h2 h3; exact ⟨by rw [← h2]; rfl, fun i t hi => by simp at hi⟩
  | some b o cap ts kv ha hcap hc hk =>
    injection hv with h1 h2 h3
    refine ⟨h2.symm, fun i t hi => ?_⟩
    obtain ⟨c0, c1, ⟨la, lz, lc, c2⟩, c3, c4, c5, c6, c7⟩ := hc i t hi
    rw [Nat.mul_comm 8 i] at c0 c1 c2 c3 c4 c5 c6 c7
    exact ⟨b, o, la, lz, lc, kv i, h1.symm, ha, hk i t hi, c0, c1, c2, c3, c4, c5, c6, c7⟩
/-- A row of blocks is written behind what a page holds. -/
def BlocksOK (ts : List S.Blk) : Prop := ∀ (B b : Nat) (A : Nat → Prop) (w0 : World) (ka : Option Addr) (kn kc : Nat) (tight : Bool) (l : List UInt8) (w : World), (∀ x, A x → x < B) → Rep w0 A (.slice ka kn kc) ts → Below B w0 w → EnvP B w → PageF B b l w → B ≤ w.heap.size → fitL ts → l.length + pgL ts ≤ 1000000000 →
  Calls Tryz.prog 71 #[.pointer (some ⟨b, 0, none⟩), .slice ka kn kc, .bool tight] w fun e w' => e = .returned (.tuple #[]) ∧ Wrote 124 B b (l ++ blksHt contH tight ts) w w'

theorem str_add (a b : ByteArray) (h : a.size + b.size ≤ 9223372036854775807) : Op.stringOp .add a b = pure (.string (a ++ b)) := by
  unfold Op.stringOp
  dsimp only
  rw [if_neg]
  rw [show IntKind.i64.max = 9223372036854775807 from by decide]
  omega

set_option maxRecDepth 100000 in
set_option maxHeartbeats 8000000 in
theorem wlist_any (B b : Nat) (A : Nat → Prop) (w0 : World) (l : List UInt8) (w : World) (hA : ∀ x, A x → x < B) (hb0 : Below B w0 w) (hbl : PageF B b l w) (hB : B ≤ w.heap.size) (henv : EnvP B w) (k li : Int) (la : Option Addr) (lz lc : Nat) (n : Int) (info text : List UInt8) (loose : Bool) (ka : Option Addr) (kn kc : Nat) (kids : List S.Blk) (hrep : Rep w0 A (.slice ka kn kc) kids) (hQ : ∀ (i : Nat) (t : S.Blk), kids[i]? = some t → BlocksOK t.kids) (hfit : fitL kids) (h0 : -9223372036854775808 ≤ n) (h1 : n ≤ 9223372036854775807) (hl : l.length + 120 + pgL kids ≤ 1000000000) :
    Calls Tryz.prog 150 #[.pointer (some ⟨b, 0, none⟩), .agg #[.int .i64 k, .int .i64 li, .slice la lz lc, .int .i64 n, .string (S.B info), .string (S.B text), .bool loose, .slice ka kn kc]] w fun e w' => e = .returned (.tuple #[]) ∧ Wrote 124 B b (l ++ ([60] ++ listN n ++ listO n ++ [62, 10] ++ itemsHt contH (!loose) kids ++ ([60, 47] ++ listN n ++ [62, 10]))) w w' := by
  obtain ⟨WX, hWX⟩ : ∃ WX, WX = w.alloc (.cells #[.int .i64 k, .int .i64 li, .slice la lz lc, .int .i64 n, .string (S.B info), .string (S.B text), .bool loose, .slice ka kn kc] 110) := ⟨_, rfl⟩
  have hW0 : Wrote 124 B b l w WX := by rw [hWX]; exact (Wrote.refl hbl).allocd hB _
  have hX0 : WX.heap[w.heap.size]? = some (.cells #[.int .i64 k, .int .i64 li, .slice la lz lc, .int .i64 n, .string (S.B info), .string (S.B text), .bool loose, .slice ka kn kc] 110 (0, 0)) := by rw [hWX]; exact alloc_new _ _
  have stX : Hid (∀ l' w1, Wrote 124 B b l' w w1 → Wrote 124 B b l' WX w1 → w1.heap[w.heap.size]? = some (.cells #[.int .i64 k, .int .i64 li, .slice la lz lc, .int .i64 n, .string (S.B info), .string (S.B text), .bool loose, .slice ka kn kc] 110 (0, 0))) := hid (fun l' w1 _ h => h.blk hW0.1 hX0 (by decide) (by decide))
  have hBX : B ≤ WX.heap.size := Nat.le_trans hB hW0.2.1.size
  have henX : EnvP B WX := henv.below hW0.2.1
  have hst0 := hid (Wrote.refl hW0.1)
  have hfin : Hid (∀ l' w1, Wrote 124 B b l' WX w1 → Wrote 124 B b l' w w1) := hid (fun l' w1 h => hW0.trans h)
  have hkX : Hid (∀ l' w1, Wrote 124 B b l' WX w1 → w1.heap[w.heap.size]? = some (.cells #[.int .i64 k, .int .i64 li, .slice la lz lc, .int .i64 n, .string (S.B info), .string (S.B text), .bool loose, .slice ka kn kc] 110 (0, 0))) := hid (fun l' w1 h => h.blk hW0.1 hX0 (by decide) (by decide))
  have hWXH := hid hWX
  have henXH := hid henX
  have x3 : WX.cell? ⟨w.heap.size, 3, none⟩ = some (.int .i64 n) := cell_blk hX0 3 _ rfl
  have x4 : WX.cell? ⟨w.heap.size, 4, none⟩ = some (.string (S.B info)) := cell_blk hX0 4 _ rfl
  have x5 : WX.cell? ⟨w.heap.size, 5, none⟩ = some (.string (S.B text)) := cell_blk hX0 5 _ rfl
  have x6 : WX.cell? ⟨w.heap.size, 6, none⟩ = some (.bool loose) := cell_blk hX0 6 _ rfl
  have x7 : WX.cell? ⟨w.heap.size, 7, none⟩ = some (.slice ka kn kc) := cell_blk hX0 7 _ rfl
  clear hbl hX0 hW0 hWX stX henX henv
  have hbX0 : Hid (∀ l' w1, Wrote 124 B b l' WX w1 → Below B w0 w1) := hid (fun l' w1 h => hb0.trans (hfin.out l' w1 h).2.1)
  have hO := listO_le n h0 h1
  have hit := Lib.itoa_length_le n h0 h1
  obtain ⟨hkn, hview⟩ := rep_view hrep
  have hviewH := hid hview
  have hQH := hid hQ
  have hfitH := hid hfit
  have hlen := pgL_len kids
  obtain ⟨nm, hnm⟩ : ∃ nm : ByteArray, nm = S.B (listN n) := ⟨_, rfl⟩
  have hnz : nm.size = 2 := by rw [hnm, S.size_B]; exact listN_le n
  obtain ⟨l1, hl1⟩ : ∃ l1, l1 = l ++ ([60] ++ listN n ++ listO n ++ [62, 10]) := ⟨_, rfl⟩
  have hl1z : l1.length ≤ l.length + 45 := by rw [hl1]; simp only [List.length_append, List.length_cons, List.length_nil, listN_le]; omega
  have hl1H := hid hl1
  have hnmH := hid hnm
  clear hrep hview hQ hfit hb0
  subst hkn
  obtain ⟨R, hR⟩ : ∃ R, R = (l ++ ([60] ++ listN n ++ listO n ++ [62, 10] ++ itemsHt contH (!loose) kids ++ ([60, 47] ++ listN n ++ [62, 10]))) := ⟨_, rfl⟩
  rw [← hR]
  have hRH := hid hR
  clear hR
  go_enter Tryz.func150, Tryz.ntmps150
  by_cases hneg : n < 0
  · have hN : listN n = [117, 108] := by unfold listN; rw [if_neg (by omega)]
    have hNH := hid hN
    have hOO : listO n = [] := by unfold listO; rw [if_neg (by omega)]
    have hres : Hid (l1 = (l ++ [60, 117, 108]) ++ [62, 10]) := hid (by rw [hl1H.out, hN, hOO]; simp)
    have hnm2 : Hid (Value.string ⟨#[117, 108]⟩ = Value.string nm) := hid (by rw [hnmH.out, hN]; rfl)
    have hg1 : ¬ (0 : Int) ≤ n := by omega
    clear hN hOO
    go_wp2_with fail
    rw [← hWXH.out]
    refine (hst0.out.w hBX _ (by simp only [size_app, size_lit, List.size_toArray, List.length_cons, List.length_nil]; omega)).mono ?_
    rintro e w1 ⟨rfl, g1⟩
    have y13 := cell_blk (hkX.out _ _ g1) 3 _ rfl
    have G1 : Hid (Wrote 124 B b (l ++ [60, 117, 108]) WX w1) := hid (by simpa [data_app] using g1)
    clear g1
    go_wp2_with fail
    refine (G1.out.w hBX ⟨#[62, 10]⟩ (by rw [size_lit]; simp only [List.size_toArray, List.length_append, List.length_cons, List.length_nil]; omega)).mono ?_
    rintro e w2 ⟨rfl, g2⟩
    have G2 := hid g2
    clear g2
    have hW1 : Hid (Wrote 124 B b l1 WX w2) := hid (by rw [hres.out]; exact G2.out)
    clear hres G2
    have y7 := cell_blk (hkX.out _ _ hW1.out) 7 _ rfl
    go_wp2
    go_loopw [6, 40] (fun _ i wr => ∃ j : Nat, j ≤ kids.length ∧ i = .int .i64 j ∧ Hid (Wrote 124 B b (l1 ++ itemsHt contH (!loose) (kids.take j)) WX wr)) (fun _ i _ => kids.length - (intOf i).toNat)
    case atStart => exact ⟨0, Nat.zero_le _, rfl, by simpa [itemsHt] using hW1⟩
    case round =>
      obtain ⟨j, hj, rfl, hW⟩ := hrel
      have hle := itemsHt_le (!loose) (kids.take j) (fitL_take kids hfitH.out j)
      have hle2 := pgL_take_le kids j
      by_cases hlt : j < kids.length
      · obtain ⟨t, ht⟩ : ∃ t, kids[j]? = some t := ⟨kids[j], List.getElem?_eq_getElem hlt⟩
        obtain ⟨g, o, la2, lz2, lc2, kv, hka, hg, hrk, c0, c1, c2, c3, c4, c5, c6, c7⟩ := hviewH.out j t ht
        obtain ⟨a2, n2, cp2, rfl⟩ := hrk.form
        have hle3 := pgL_take_le kids (j + 1)
        rw [pgL_take kids j t ht, pgB_eq] at hle3
        have hft := fitL_get kids hfitH.out j t ht
        have hbw := hbX0.out _ _ hW.out
        have hgB := hA g hg
        have hcell : ∀ q, wr.cell? ⟨g, o + j * 8 + q, none⟩ = w0.cell? ⟨g, o + j * 8 + q, none⟩ := fun q => hbw.cell (p := ⟨g, o + j * 8 + q, none⟩) hgB
        have d0 := (hcell 0).trans c0
        have d1 := (hcell 1).trans c1
        have d2 := (hcell 2).trans c2
        have d3 := (hcell 3).trans c3
        have d4 := (hcell 4).trans c4
        have d5 := (hcell 5).trans c5
        have d6 := (hcell 6).trans c6
        have d7 := (hcell 7).trans c7
        rw [Nat.add_zero] at d0
        have hBr : B ≤ wr.heap.size := Nat.le_trans hBX hW.out.2.1.size
        obtain ⟨X2, hX2⟩ : ∃ X2, X2 = Obj.cells #[.int .i64 t.kind, .int .i64 t.line, .slice la2 lz2 lc2, .int .i64 t.n, .string (S.B t.info), .string (S.B t.text), .bool t.loose, .slice a2 n2 cp2] 110 := ⟨_, rfl⟩
        have hWa := hW.out.allocd hBr X2
        have hx2 : (wr.alloc X2).heap[wr.heap.size]? = some (.cells #[.int .i64 t.kind, .int .i64 t.line, .slice la2 lz2 lc2, .int .i64 t.n, .string (S.B t.info), .string (S.B t.text), .bool t.loose, .slice a2 n2 cp2] 110 (0, 0)) := by rw [hX2]; exact alloc_new _ _
        have hxx := hkX.out _ _ hWa
        have hBj : B ≤ (wr.alloc X2).heap.size := by simp; omega
        have keep : Hid (∀ l' w1, Wrote 124 B b l' (wr.alloc X2) w1 → w1.cell? ⟨wr.heap.size, 7, none⟩ = some (.slice a2 n2 cp2) ∧ w1.cell? ⟨w.heap.size, 6, none⟩ = some (.bool loose)) := hid (fun l' w1 h => ⟨cell_blk (h.blk hWa.1 (T2 := 110) hx2 (by decide) (by decide)) 7 _ rfl, cell_blk (h.blk hWa.1 (T2 := 110) hxx (by decide) (by decide)) 6 _ rfl⟩)
        have hr0 := hid (Wrote.refl hWa.1)
        have hblk : Hid (∀ l' w1, l'.length + pgL t.kids ≤ 1000000000 → Wrote 124 B b l' (wr.alloc X2) w1 → Calls Tryz.prog 71 #[.pointer (some ⟨b, 0, none⟩), .slice a2 n2 cp2, .bool (!loose)] w1 fun e w2 => e = .returned (.tuple #[]) ∧ Wrote 124 B b (l' ++ blksHt contH (!loose) t.kids) (wr.alloc X2) w2) := hid (fun l' w1 hz h => by
          have hbb : Below B w0 w1 := (hbX0.out _ _ hWa).trans h.2.1
          have hfk : fitL t.kids := by
            obtain ⟨z, q1, q2, q3, q4, q5, q6⟩ := t
            simp only [fitB] at hft
            exact hft.2.2.2.2
          exact (hQH.out j t ht B b A w0 a2 n2 cp2 (!loose) l' w1 hA hrk hbb (henXH.out.below (hWa.trans h).2.1) h.1 (Nat.le_trans hBj h.2.1.size) hfk hz).mono (fun e w2 ⟨g1, g2⟩ => ⟨g1, h.trans g2⟩))
        have hend : Hid (∀ w1, Wrote 124 B b ((((l1 ++ itemsHt contH (!loose) (kids.take j)) ++ [60, 108, 105, 62, 10]) ++ blksHt contH (!loose) t.kids) ++ [60, 47, 108, 105, 62, 10]) (wr.alloc X2) w1 → Wrote 124 B b (l1 ++ itemsHt contH (!loose) (kids.take (j + 1))) WX w1) := hid (fun w1 h => by
          have := hWa.trans h
          rw [itemsHt_take (!loose) kids j t ht]
          obtain ⟨z, q1, q2, q3, q4, q5, q6⟩ := t
          simp only [itemHt]
          simpa [S.Blk.kids, List.append_assoc] using this)
        have hblk_le := blksHt_le (!loose) t.kids (by
            obtain ⟨z, q1, q2, q3, q4, q5, q6⟩ := t
            simp only [fitB] at hft
            exact hft.2.2.2.2)
        have hX2H := hid hX2
        clear c0 c1 c2 c3 c4 c5 c6 c7 hcell hx2 hxx hWa hbw hrk hft hX2
        subst hka
        go_wp2_with fail
        rw [← hX2H.out]
        refine (hr0.out.w hBj ⟨#[60, 108, 105, 62, 10]⟩ (by rw [size_lit]; simp only [List.size_toArray, List.length_append, List.length_cons, List.length_nil]; omega)).mono ?_
        rintro e w1 ⟨rfl, g1⟩
        obtain ⟨z7, z6⟩ := keep.out _ _ g1
        have G1 := hid g1
        clear g1
        go_wp2_with fail
        refine (hblk.out _ _ (by simp only [List.length_append, List.length_cons, List.length_nil]; omega) G1.out).mono ?_
        rintro e w2 ⟨rfl, g2⟩
        have G2 := hid g2
        clear g2
        go_wp2_with fail
        refine (G2.out.w hBj ⟨#[60, 47, 108, 105, 62, 10]⟩ (by rw [size_lit]; simp only [List.size_toArray, List.length_append, List.length_cons, List.length_nil]; omega)).mono ?_
        rintro e w3 ⟨rfl, g3⟩
        have G3 := hid (hend.out _ g3)
        clear g3
        go_wp2
        go_roundw
        case rel => exact ⟨j + 1, by omega, by go_num, G3⟩
        case measure => simp [intOf]; omega
      · have hje : j = kids.length := by omega
        subst hje
        rw [List.take_length] at hW hle hle2
        go_wp2_with fail
        refine (hW.out.w hBX _ (by simp only [size_app, size_lit, List.size_toArray, List.length_append, List.length_cons, List.length_nil]; omega)).mono ?_
        rintro e w1 ⟨rfl, g1⟩
        have G1 := hid (hfin.out _ _ g1)
        clear g1
        go_wp2
        go_end0
        refine ⟨rfl, ?_⟩
        have := G1.out
        rw [hl1H.out] at this
        rw [hRH.out]
        rw [hNH.out] at this ⊢
        simpa [data_app, S.data_B, List.append_assoc] using this
  · have hN : listN n = [111, 108] := by unfold listN; rw [if_pos (by omega)]
    have hnm2 : Hid (Value.string ⟨#[111, 108]⟩ = Value.string nm) := hid (by rw [hnmH.out, hN]; rfl)
    have hg1 : (0 : Int) ≤ n := by omega
    by_cases hone : n = 1
    · subst hone
      have hNH := hid hN
      have hOO : listO 1 = [] := by unfold listO; rw [if_neg (by omega)]
      have hres : Hid (l1 = (l ++ [60, 111, 108]) ++ [62, 10]) := hid (by rw [hl1H.out, hN, hOO]; simp)
      clear hN hOO
      go_wp2_with fail
      rw [← hWXH.out]
      refine (hst0.out.w hBX _ (by simp only [size_app, size_lit, List.size_toArray, List.length_cons, List.length_nil]; omega)).mono ?_
      rintro e w1 ⟨rfl, g1⟩
      have y13 := cell_blk (hkX.out _ _ g1) 3 _ rfl
      have G1 : Hid (Wrote 124 B b (l ++ [60, 111, 108]) WX w1) := hid (by simpa [data_app] using g1)
      clear g1
      go_wp2_with fail
      refine (G1.out.w hBX ⟨#[62, 10]⟩ (by rw [size_lit]; simp only [List.size_toArray, List.length_append, List.length_cons, List.length_nil]; omega)).mono ?_
      rintro e w2 ⟨rfl, g2⟩
      have G2 := hid g2
      clear g2
      have hW1 : Hid (Wrote 124 B b l1 WX w2) := hid (by rw [hres.out]; exact G2.out)
      clear hres G2
      have y7 := cell_blk (hkX.out _ _ hW1.out) 7 _ rfl
      go_wp2
      go_loopw [6, 40] (fun _ i wr => ∃ j : Nat, j ≤ kids.length ∧ i = .int .i64 j ∧ Hid (Wrote 124 B b (l1 ++ itemsHt contH (!loose) (kids.take j)) WX wr)) (fun _ i _ => kids.length - (intOf i).toNat)
      case atStart => exact ⟨0, Nat.zero_le _, rfl, by simpa [itemsHt] using hW1⟩
      case round =>
        obtain ⟨j, hj, rfl, hW⟩ := hrel
        have hle := itemsHt_le (!loose) (kids.take j) (fitL_take kids hfitH.out j)
        have hle2 := pgL_take_le kids j
        by_cases hlt : j < kids.length
        · obtain ⟨t, ht⟩ : ∃ t, kids[j]? = some t := ⟨kids[j], List.getElem?_eq_getElem hlt⟩
          obtain ⟨g, o, la2, lz2, lc2, kv, hka, hg, hrk, c0, c1, c2, c3, c4, c5, c6, c7⟩ := hviewH.out j t ht
          obtain ⟨a2, n2, cp2, rfl⟩ := hrk.form
          have hle3 := pgL_take_le kids (j + 1)
          rw [pgL_take kids j t ht, pgB_eq] at hle3
          have hft := fitL_get kids hfitH.out j t ht
          have hbw := hbX0.out _ _ hW.out
          have hgB := hA g hg
          have hcell : ∀ q, wr.cell? ⟨g, o + j * 8 + q, none⟩ = w0.cell? ⟨g, o + j * 8 + q, none⟩ := fun q => hbw.cell (p := ⟨g, o + j * 8 + q, none⟩) hgB
          have d0 := (hcell 0).trans c0
          have d1 := (hcell 1).trans c1
          have d2 := (hcell 2).trans c2
          have d3 := (hcell 3).trans c3
          have d4 := (hcell 4).trans c4
          have d5 := (hcell 5).trans c5
          have d6 := (hcell 6).trans c6
          have d7 := (hcell 7).trans c7
          rw [Nat.add_zero] at d0
          have hBr : B ≤ wr.heap.size := Nat.le_trans hBX hW.out.2.1.size
          obtain ⟨X2, hX2⟩ : ∃ X2, X2 = Obj.cells #[.int .i64 t.kind, .int .i64 t.line, .slice la2 lz2 lc2, .int .i64 t.n, .string (S.B t.info), .string (S.B t.text), .bool t.loose, .slice a2 n2 cp2] 110 := ⟨_, rfl⟩
          have hWa := hW.out.allocd hBr X2
          have hx2 : (wr.alloc X2).heap[wr.heap.size]? = some (.cells #[.int .i64 t.kind, .int .i64 t.line, .slice la2 lz2 lc2, .int .i64 t.n, .string (S.B t.info), .string (S.B t.text), .bool t.loose, .slice a2 n2 cp2] 110 (0, 0)) := by rw [hX2]; exact alloc_new _ _
          have hxx := hkX.out _ _ hWa
          have hBj : B ≤ (wr.alloc X2).heap.size := by simp; omega
          have keep : Hid (∀ l' w1, Wrote 124 B b l' (wr.alloc X2) w1 → w1.cell? ⟨wr.heap.size, 7, none⟩ = some (.slice a2 n2 cp2) ∧ w1.cell? ⟨w.heap.size, 6, none⟩ = some (.bool loose)) := hid (fun l' w1 h => ⟨cell_blk (h.blk hWa.1 (T2 := 110) hx2 (by decide) (by decide)) 7 _ rfl, cell_blk (h.blk hWa.1 (T2 := 110) hxx (by decide) (by decide)) 6 _ rfl⟩)
          have hr0 := hid (Wrote.refl hWa.1)
          have hblk : Hid (∀ l' w1, l'.length + pgL t.kids ≤ 1000000000 → Wrote 124 B b l' (wr.alloc X2) w1 → Calls Tryz.prog 71 #[.pointer (some ⟨b, 0, none⟩), .slice a2 n2 cp2, .bool (!loose)] w1 fun e w2 => e = .returned (.tuple #[]) ∧ Wrote 124 B b (l' ++ blksHt contH (!loose) t.kids) (wr.alloc X2) w2) := hid (fun l' w1 hz h => by
            have hbb : Below B w0 w1 := (hbX0.out _ _ hWa).trans h.2.1
            have hfk : fitL t.kids := by
              obtain ⟨z, q1, q2, q3, q4, q5, q6⟩ := t
              simp only [fitB] at hft
              exact hft.2.2.2.2
            exact (hQH.out j t ht B b A w0 a2 n2 cp2 (!loose) l' w1 hA hrk hbb (henXH.out.below (hWa.trans h).2.1) h.1 (Nat.le_trans hBj h.2.1.size) hfk hz).mono (fun e w2 ⟨g1, g2⟩ => ⟨g1, h.trans g2⟩))
          have hend : Hid (∀ w1, Wrote 124 B b ((((l1 ++ itemsHt contH (!loose) (kids.take j)) ++ [60, 108, 105, 62, 10]) ++ blksHt contH (!loose) t.kids) ++ [60, 47, 108, 105, 62, 10]) (wr.alloc X2) w1 → Wrote 124 B b (l1 ++ itemsHt contH (!loose) (kids.take (j + 1))) WX w1) := hid (fun w1 h => by
            have := hWa.trans h
            rw [itemsHt_take (!loose) kids j t ht]
            obtain ⟨z, q1, q2, q3, q4, q5, q6⟩ := t
            simp only [itemHt]
            simpa [S.Blk.kids, List.append_assoc] using this)
          have hblk_le := blksHt_le (!loose) t.kids (by
              obtain ⟨z, q1, q2, q3, q4, q5, q6⟩ := t
              simp only [fitB] at hft
              exact hft.2.2.2.2)
          have hX2H := hid hX2
          clear c0 c1 c2 c3 c4 c5 c6 c7 hcell hx2 hxx hWa hbw hrk hft hX2
          subst hka
          go_wp2_with fail
          rw [← hX2H.out]
          refine (hr0.out.w hBj ⟨#[60, 108, 105, 62, 10]⟩ (by rw [size_lit]; simp only [List.size_toArray, List.length_append, List.length_cons, List.length_nil]; omega)).mono ?_
          rintro e w1 ⟨rfl, g1⟩
          obtain ⟨z7, z6⟩ := keep.out _ _ g1
          have G1 := hid g1
          clear g1
          go_wp2_with fail
          refine (hblk.out _ _ (by simp only [List.length_append, List.length_cons, List.length_nil]; omega) G1.out).mono ?_
          rintro e w2 ⟨rfl, g2⟩
          have G2 := hid g2
          clear g2
          go_wp2_with fail
          refine (G2.out.w hBj ⟨#[60, 47, 108, 105, 62, 10]⟩ (by rw [size_lit]; simp only [List.size_toArray, List.length_append, List.length_cons, List.length_nil]; omega)).mono ?_
          rintro e w3 ⟨rfl, g3⟩
          have G3 := hid (hend.out _ g3)
          clear g3
          go_wp2
          go_roundw
          case rel => exact ⟨j + 1, by omega, by go_num, G3⟩
          case measure => simp [intOf]; omega
        · have hje : j = kids.length := by omega
          subst hje
          rw [List.take_length] at hW hle hle2
          go_wp2_with fail
          refine (hW.out.w hBX _ (by simp only [size_app, size_lit, List.size_toArray, List.length_append, List.length_cons, List.length_nil]; omega)).mono ?_
          rintro e w1 ⟨rfl, g1⟩
          have G1 := hid (hfin.out _ _ g1)
          clear g1
          go_wp2
          go_end0
          refine ⟨rfl, ?_⟩
          have := G1.out
          rw [hl1H.out] at this
          rw [hRH.out]
          rw [hNH.out] at this ⊢
          simpa [data_app, S.data_B, List.append_assoc] using this
    · have hNH := hid hN
      have hOO : listO n = [32, 115, 116, 97, 114, 116, 61, 34] ++ Lib.itoa n ++ [34] := by unfold listO; rw [if_pos ⟨by omega, hone⟩]
      have hres : Hid (l1 = ((l ++ [60, 111, 108]) ++ ([32, 115, 116, 97, 114, 116, 61, 34] ++ Lib.itoa n ++ [34])) ++ [62, 10]) := hid (by rw [hl1H.out, hN, hOO]; simp)
      have hb1 : (n == 1) = false := by rw [beq_eq_false_iff_ne]; exact hone
      have hn1 : (n != 1) = true := by rw [bne, hb1]; rfl
      obtain ⟨lv, hlv⟩ : ∃ lv, S.B (Lib.itoa n) = lv := ⟨_, rfl⟩
      have hlz : lv.size ≤ 21 := by rw [← hlv, S.size_B]; exact hit
      have hlvH := hid hlv
      clear hN hOO hone hlv hit
      go_wp2_with fail
      rw [← hWXH.out]
      refine (hst0.out.w hBX _ (by simp only [size_app, size_lit, List.size_toArray, List.length_cons, List.length_nil]; omega)).mono ?_
      rintro e w1 ⟨rfl, g1⟩
      have y13 := cell_blk (hkX.out _ _ g1) 3 _ rfl
      have G1 : Hid (Wrote 124 B b (l ++ [60, 111, 108]) WX w1) := hid (by simpa [data_app] using g1)
      have hBw1 : B ≤ w1.heap.size := Nat.le_trans hBX g1.2.1.size
      clear g1
      have hI : Hid (∀ wx, After w1 wx → Calls Tryz.prog 193 #[.int .i64 n] wx fun e w2 => e = .returned (.string lv) ∧ w2.cell? ⟨w.heap.size, 3, none⟩ = some (.int .i64 n) ∧ Hid (Wrote 124 B b (l ++ [60, 111, 108]) WX w2)) := hid (fun wx hx => by
        have h := G1.out.below hx hBw1
        have := h.i hBX henXH.out n h0 h1
        rw [hlvH.out] at this
        exact this.mono (fun e w2 ⟨g1, g2⟩ => ⟨g1, cell_blk (hkX.out _ _ g2) 3 _ rfl, hid g2⟩))
      have hc1 : Op.stringOp .add ⟨#[32, 115, 116, 97, 114, 116, 61, 34]⟩ lv = pure (.string ((⟨#[32, 115, 116, 97, 114, 116, 61, 34]⟩ : ByteArray) ++ lv)) := str_add _ _ (by show 8 + lv.size ≤ 9223372036854775807; omega)
      have hc2 : Op.stringOp .add ((⟨#[32, 115, 116, 97, 114, 116, 61, 34]⟩ : ByteArray) ++ lv) ⟨#[34]⟩ = pure (.string ((⟨#[32, 115, 116, 97, 114, 116, 61, 34]⟩ : ByteArray) ++ lv ++ ⟨#[34]⟩)) := str_add _ _ (by rw [size_app]; show 8 + lv.size + 1 ≤ 9223372036854775807; omega)
      go_upto_region 6 with fail
      go_cut [4] (fun s4 wx => s4 = .string ⟨#[111, 108]⟩ ∧ Hid (Wrote 124 B b ((l ++ [60, 111, 108]) ++ ([32, 115, 116, 97, 114, 116, 61, 34] ++ Lib.itoa n ++ [34])) WX wx))
      case first =>
        go_region_held3 (fun w' => w'.cell? ⟨w.heap.size, 3, none⟩ = some (.int .i64 n))
          (first | assumption | exact y13)
          (first
            | (go_at_call 193; refine (hI.out _ after_drew).mono ?_; rintro e w2 ⟨rfl, y23, G2⟩)
            | (go_at_call 60; refine (G2.out.w hBX _ (by simp only [size_app, size_lit, List.size_toArray, List.length_append, List.length_cons, List.length_nil]; omega)).mono ?_; rintro e w3 ⟨rfl, g3⟩; have y33 := cell_blk (hkX.out _ _ g3) 3 _ rfl; have G3 := hid g3; clear g3))
        all_goals (go_wp2_with fail; go_meet; exact ⟨rfl, hid (by have := G3.out; rw [← hlvH.out] at this; simpa [data_app, S.data_B, List.append_assoc] using this)⟩)
      case rest =>
      obtain ⟨rfl, G3⟩ := hcut
      go_wp2_with fail
      refine (G3.out.w hBX ⟨#[62, 10]⟩ (by rw [size_lit]; have := Lib.itoa_length_le n h0 h1; simp only [List.size_toArray, List.length_append, List.length_cons, List.length_nil]; omega)).mono ?_
      rintro e w4 ⟨rfl, g4⟩
      have G4 := hid g4
      clear g4
      have hW1 : Hid (Wrote 124 B b l1 WX w4) := hid (by rw [hres.out]; exact G4.out)
      clear hres G4
      have y7 := cell_blk (hkX.out _ _ hW1.out) 7 _ rfl
      go_wp2
      go_loopw [6, 40] (fun _ i wr => ∃ j : Nat, j ≤ kids.length ∧ i = .int .i64 j ∧ Hid (Wrote 124 B b (l1 ++ itemsHt contH (!loose) (kids.take j)) WX wr)) (fun _ i _ => kids.length - (intOf i).toNat)
      case atStart => exact ⟨0, Nat.zero_le _, rfl, by simpa [itemsHt] using hW1⟩
      case round =>
        obtain ⟨j, hj, rfl, hW⟩ := hrel
        have hle := itemsHt_le (!loose) (kids.take j) (fitL_take kids hfitH.out j)
        have hle2 := pgL_take_le kids j
        by_cases hlt : j < kids.length
        · obtain ⟨t, ht⟩ : ∃ t, kids[j]? = some t := ⟨kids[j], List.getElem?_eq_getElem hlt⟩
          obtain ⟨g, o, la2, lz2, lc2, kv, hka, hg, hrk, c0, c1, c2, c3, c4, c5, c6, c7⟩ := hviewH.out j t ht
          obtain ⟨a2, n2, cp2, rfl⟩ := hrk.form
          have hle3 := pgL_take_le kids (j + 1)
          rw [pgL_take kids j t ht, pgB_eq] at hle3
          have hft := fitL_get kids hfitH.out j t ht
          have hbw := hbX0.out _ _ hW.out
          have hgB := hA g hg
          have hcell : ∀ q, wr.cell? ⟨g, o + j * 8 + q, none⟩ = w0.cell? ⟨g, o + j * 8 + q, none⟩ := fun q => hbw.cell (p := ⟨g, o + j * 8 + q, none⟩) hgB
          have d0 := (hcell 0).trans c0
          have d1 := (hcell 1).trans c1
          have d2 := (hcell 2).trans c2
          have d3 := (hcell 3).trans c3
          have d4 := (hcell 4).trans c4
          have d5 := (hcell 5).trans c5
          have d6 := (hcell 6).trans c6
          have d7 := (hcell 7).trans c7
          rw [Nat.add_zero] at d0
          have hBr : B ≤ wr.heap.size := Nat.le_trans hBX hW.out.2.1.size
          obtain ⟨X2, hX2⟩ : ∃ X2, X2 = Obj.cells #[.int .i64 t.kind, .int .i64 t.line, .slice la2 lz2 lc2, .int .i64 t.n, .string (S.B t.info), .string (S.B t.text), .bool t.loose, .slice a2 n2 cp2] 110 := ⟨_, rfl⟩
          have hWa := hW.out.allocd hBr X2
          have hx2 : (wr.alloc X2).heap[wr.heap.size]? = some (.cells #[.int .i64 t.kind, .int .i64 t.line, .slice la2 lz2 lc2, .int .i64 t.n, .string (S.B t.info), .string (S.B t.text), .bool t.loose, .slice a2 n2 cp2] 110 (0, 0)) := by rw [hX2]; exact alloc_new _ _
          have hxx := hkX.out _ _ hWa
          have hBj : B ≤ (wr.alloc X2).heap.size := by simp; omega
          have keep : Hid (∀ l' w1, Wrote 124 B b l' (wr.alloc X2) w1 → w1.cell? ⟨wr.heap.size, 7, none⟩ = some (.slice a2 n2 cp2) ∧ w1.cell? ⟨w.heap.size, 6, none⟩ = some (.bool loose)) := hid (fun l' w1 h => ⟨cell_blk (h.blk hWa.1 (T2 := 110) hx2 (by decide) (by decide)) 7 _ rfl, cell_blk (h.blk hWa.1 (T2 := 110) hxx (by decide) (by decide)) 6 _ rfl⟩)
          have hr0 := hid (Wrote.refl hWa.1)
          have hblk : Hid (∀ l' w1, l'.length + pgL t.kids ≤ 1000000000 → Wrote 124 B b l' (wr.alloc X2) w1 → Calls Tryz.prog 71 #[.pointer (some ⟨b, 0, none⟩), .slice a2 n2 cp2, .bool (!loose)] w1 fun e w2 => e = .returned (.tuple #[]) ∧ Wrote 124 B b (l' ++ blksHt contH (!loose) t.kids) (wr.alloc X2) w2) := hid (fun l' w1 hz h => by
            have hbb : Below B w0 w1 := (hbX0.out _ _ hWa).trans h.2.1
            have hfk : fitL t.kids := by
              obtain ⟨z, q1, q2, q3, q4, q5, q6⟩ := t
              simp only [fitB] at hft
              exact hft.2.2.2.2
            exact (hQH.out j t ht B b A w0 a2 n2 cp2 (!loose) l' w1 hA hrk hbb (henXH.out.below (hWa.trans h).2.1) h.1 (Nat.le_trans hBj h.2.1.size) hfk hz).mono (fun e w2 ⟨g1, g2⟩ => ⟨g1, h.trans g2⟩))
          have hend : Hid (∀ w1, Wrote 124 B b ((((l1 ++ itemsHt contH (!loose) (kids.take j)) ++ [60, 108, 105, 62, 10]) ++ blksHt contH (!loose) t.kids) ++ [60, 47, 108, 105, 62, 10]) (wr.alloc X2) w1 → Wrote 124 B b (l1 ++ itemsHt contH (!loose) (kids.take (j + 1))) WX w1) := hid (fun w1 h => by
            have := hWa.trans h
            rw [itemsHt_take (!loose) kids j t ht]
            obtain ⟨z, q1, q2, q3, q4, q5, q6⟩ := t
            simp only [itemHt]
            simpa [S.Blk.kids, List.append_assoc] using this)
          have hblk_le := blksHt_le (!loose) t.kids (by
              obtain ⟨z, q1, q2, q3, q4, q5, q6⟩ := t
              simp only [fitB] at hft
              exact hft.2.2.2.2)
          have hX2H := hid hX2
          clear c0 c1 c2 c3 c4 c5 c6 c7 hcell hx2 hxx hWa hbw hrk hft hX2
          subst hka
          go_wp2_with fail
          rw [← hX2H.out]
          refine (hr0.out.w hBj ⟨#[60, 108, 105, 62, 10]⟩ (by rw [size_lit]; simp only [List.size_toArray, List.length_append, List.length_cons, List.length_nil]; omega)).mono ?_
          rintro e w1 ⟨rfl, g1⟩
          obtain ⟨z7, z6⟩ := keep.out _ _ g1
          have G1 := hid g1
          clear g1
          go_wp2_with fail
          refine (hblk.out _ _ (by simp only [List.length_append, List.length_cons, List.length_nil]; omega) G1.out).mono ?_
          rintro e w2 ⟨rfl, g2⟩
          have G2 := hid g2
          clear g2
          go_wp2_with fail
          refine (G2.out.w hBj ⟨#[60, 47, 108, 105, 62, 10]⟩ (by rw [size_lit]; simp only [List.size_toArray, List.length_append, List.length_cons, List.length_nil]; omega)).mono ?_
          rintro e w3 ⟨rfl, g3⟩
          have G3 := hid (hend.out _ g3)
          clear g3
          go_wp2
          go_roundw
          case rel => exact ⟨j + 1, by omega, by go_num, G3⟩
          case measure => simp [intOf]; omega
        · have hje : j = kids.length := by omega
          subst hje
          rw [List.take_length] at hW hle hle2
          go_wp2_with fail
          refine (hW.out.w hBX _ (by simp only [size_app, size_lit, List.size_toArray, List.length_append, List.length_cons, List.length_nil]; omega)).mono ?_
          rintro e w1 ⟨rfl, g1⟩
          have G1 := hid (hfin.out _ _ g1)
          clear g1
          go_wp2
          go_end0
          refine ⟨rfl, ?_⟩
          have := G1.out
          rw [hl1H.out] at this
          rw [hRH.out]
          rw [hNH.out] at this ⊢
          simpa [data_app, S.data_B, List.append_assoc] using this
end Go.Proofs.YtlojgpkajkedeaaGreatDoor
/- A block, a row of blocks, a page. -/
namespace Go.Proofs.YtlojgpkajkedeaaGreatDoor
open Go.RowKit

theorem blkHt_eq (cont : List UInt8 → List UInt8) (tight : Bool) (z k n : Int) (info text : List UInt8) (loose : Bool) (kids : List S.Blk) : blkHt cont tight (.at_ z k n info text loose kids) =
    if k = 1 then (if tight = true then cont text ++ [10] else [60, 112, 62] ++ cont text ++ [60, 47, 112, 62, 10])
    else if k = 2 then [60, 104] ++ Lib.itoa n ++ [62] ++ cont text ++ ([60, 47, 104] ++ Lib.itoa n ++ [62, 10])
    else if k = 3 then [60, 112, 114, 101, 62, 60, 99, 111, 100, 101] ++ (if info = [] then [] else [32, 99, 108, 97, 115, 115, 61, 34] ++ S.escH (S.word info) ++ [34]) ++ [62] ++ S.escH text ++ [60, 47, 99, 111, 100, 101, 62, 60, 47, 112, 114, 101, 62, 10]
    else if k = 4 then [60, 104, 114, 62, 10]
    else if k = 5 then [60, 113, 117, 111, 116, 101, 62, 10] ++ blksHt cont false kids ++ [60, 47, 113, 117, 111, 116, 101, 62, 10]
    else if k = 6 then [60] ++ listN n ++ listO n ++ [62, 10] ++ itemsHt cont (!loose) kids ++ ([60, 47] ++ listN n ++ [62, 10])
    else [] := by simp only [blkHt]

set_option maxRecDepth 100000 in
set_option maxHeartbeats 8000000 in
theorem wblock_any (B b : Nat) (A : Nat → Prop) (w0 : World) (l : List UInt8) (w : World) (hA : ∀ x, A x → x < B) (hb0 : Below B w0 w) (hbl : PageF B b l w) (hB : B ≤ w.heap.size) (henv : EnvP B w) (k li : Int) (la : Option Addr) (lz lc : Nat) (n : Int) (info text : List UInt8) (loose : Bool) (ka : Option Addr) (kn kc : Nat) (tight : Bool) (kids : List S.Blk) (hrep : Rep w0 A (.slice ka kn kc) kids) (hQk : BlocksOK kids) (hQ : ∀ (i : Nat) (t : S.Blk), kids[i]? = some t → BlocksOK t.kids) (hfit : fitB (.at_ li k n info text loose kids)) (hl : l.length + pgB (.at_ li k n info text loose kids) ≤ 1000000000) :
    Calls Tryz.prog 102 #[.pointer (some ⟨b, 0, none⟩), .agg #[.int .i64 k, .int .i64 li, .slice la lz lc, .int .i64 n, .string (S.B info), .string (S.B text), .bool loose, .slice ka kn kc], .bool tight] w fun e w' => e = .returned (.tuple #[]) ∧ Wrote 124 B b (l ++ blkHt contH tight (.at_ li k n info text loose kids)) w w' := by
  simp only [fitB] at hfit
  obtain ⟨h0, h1, hfi, hft, hfk⟩ := hfit
  rw [pgB_eq] at hl
  simp only [S.Blk.info, S.Blk.text, S.Blk.kids] at hl
  obtain ⟨R, hR⟩ : ∃ R, R = blkHt contH tight (.at_ li k n info text loose kids) := ⟨_, rfl⟩
  rw [← hR]
  rw [blkHt_eq] at hR
  have hbl2 := blksHt_le false kids hfk
  obtain ⟨WX, hWX⟩ : ∃ WX, WX = w.alloc (.cells #[.int .i64 k, .int .i64 li, .slice la lz lc, .int .i64 n, .string (S.B info), .string (S.B text), .bool loose, .slice ka kn kc] 110) := ⟨_, rfl⟩
  have hW0 : Wrote 124 B b l w WX := by rw [hWX]; exact (Wrote.refl hbl).allocd hB _
  have hX0 : WX.heap[w.heap.size]? = some (.cells #[.int .i64 k, .int .i64 li, .slice la lz lc, .int .i64 n, .string (S.B info), .string (S.B text), .bool loose, .slice ka kn kc] 110 (0, 0)) := by rw [hWX]; exact alloc_new _ _
  have stX : Hid (∀ l' w1, Wrote 124 B b l' w w1 → Wrote 124 B b l' WX w1 → w1.heap[w.heap.size]? = some (.cells #[.int .i64 k, .int .i64 li, .slice la lz lc, .int .i64 n, .string (S.B info), .string (S.B text), .bool loose, .slice ka kn kc] 110 (0, 0))) := hid (fun l' w1 _ h => h.blk hW0.1 hX0 (by decide) (by decide))
  have hBX : B ≤ WX.heap.size := Nat.le_trans hB hW0.2.1.size
  have henX : EnvP B WX := henv.below hW0.2.1
  have hst0 := hid (Wrote.refl hW0.1)
  have hfin : Hid (∀ l' w1, Wrote 124 B b l' WX w1 → Wrote 124 B b l' w w1) := hid (fun l' w1 h => hW0.trans h)
  have hkX : Hid (∀ l' w1, Wrote 124 B b l' WX w1 → w1.heap[w.heap.size]? = some (.cells #[.int .i64 k, .int .i64 li, .slice la lz lc, .int .i64 n, .string (S.B info), .string (S.B text), .bool loose, .slice ka kn kc] 110 (0, 0))) := hid (fun l' w1 h => h.blk hW0.1 hX0 (by decide) (by decide))
  have hWXH := hid hWX
  have henXH := hid henX
  have x3 : WX.cell? ⟨w.heap.size, 3, none⟩ = some (.int .i64 n) := cell_blk hX0 3 _ rfl
  have x4 : WX.cell? ⟨w.heap.size, 4, none⟩ = some (.string (S.B info)) := cell_blk hX0 4 _ rfl
  have x5 : WX.cell? ⟨w.heap.size, 5, none⟩ = some (.string (S.B text)) := cell_blk hX0 5 _ rfl
  have x6 : WX.cell? ⟨w.heap.size, 6, none⟩ = some (.bool loose) := cell_blk hX0 6 _ rfl
  have x7 : WX.cell? ⟨w.heap.size, 7, none⟩ = some (.slice ka kn kc) := cell_blk hX0 7 _ rfl
  clear hbl hX0 hW0 hWX stX henX henv
  have x0 : WX.cell? ⟨w.heap.size, 0, none⟩ = some (.int .i64 k) := cell_blk (hkX.out _ _ hst0.out) 0 _ rfl
  have x1 : WX.cell? ⟨w.heap.size, 1, none⟩ = some (.int .i64 li) := cell_blk (hkX.out _ _ hst0.out) 1 _ rfl
  have x2 : WX.cell? ⟨w.heap.size, 2, none⟩ = some (.slice la lz lc) := cell_blk (hkX.out _ _ hst0.out) 2 _ rfl
  have hbX0 : Hid (∀ l' w1, Wrote 124 B b l' WX w1 → Below B w0 w1) := hid (fun l' w1 h => hb0.trans (hfin.out l' w1 h).2.1)
  rcases Classical.em (k = 1) with e1 | e1
  · subst e1
    have hC := hid (wpar_any B b l WX hst0.out.1 hBX henXH.out 1 li la lz lc n info text loose ka kn kc tight hft (by omega))
    have hRR : Hid (R = _) := hid (hR.trans (by rw [if_pos rfl]))
    clear hR
    go_enter Tryz.func102, Tryz.ntmps102
    go_wp2_with fail
    rw [← hWXH.out]
    refine hC.out.mono ?_
    rintro e w1 ⟨rfl, g1⟩
    have G1 := hid (hfin.out _ _ g1)
    clear g1
    go_wp2
    go_end0
    exact ⟨rfl, by rw [hRR.out]; exact G1.out⟩
  rcases Classical.em (k = 2) with e2 | e2
  · subst e2
    have hC := hid (whead_any B b l WX hst0.out.1 hBX henXH.out 2 li la lz lc n info text loose ka kn kc h0 h1 hft (by omega))
    have hRR : Hid (R = _) := hid (hR.trans (by rw [if_neg (by decide), if_pos rfl]))
    clear hR
    go_enter Tryz.func102, Tryz.ntmps102
    go_wp2_with fail
    rw [← hWXH.out]
    refine hC.out.mono ?_
    rintro e w1 ⟨rfl, g1⟩
    have G1 := hid (hfin.out _ _ g1)
    clear g1
    go_wp2
    go_end0
    exact ⟨rfl, by rw [hRR.out]; exact G1.out⟩
  rcases Classical.em (k = 3) with e3 | e3
  · subst e3
    have hC := hid (wcode_any B b l WX hst0.out.1 hBX henXH.out 3 li la lz lc n info text loose ka kn kc hft hfi (by omega))
    have hRR : Hid (R = _) := hid (hR.trans (by rw [if_neg (by decide), if_neg (by decide), if_pos rfl]))
    clear hR
    go_enter Tryz.func102, Tryz.ntmps102
    go_wp2_with fail
    rw [← hWXH.out]
    refine hC.out.mono ?_
    rintro e w1 ⟨rfl, g1⟩
    have G1 := hid (hfin.out _ _ g1)
    clear g1
    go_wp2
    go_end0
    exact ⟨rfl, by rw [hRR.out]; exact G1.out⟩
  rcases Classical.em (k = 4) with e4 | e4
  · subst e4
    have hC := hid (hst0.out.w hBX ⟨#[60, 104, 114, 62, 10]⟩ (by rw [size_lit]; simp only [List.size_toArray, List.length_cons, List.length_nil]; omega))
    have hRR : Hid (R = _) := hid (hR.trans (by rw [if_neg (by decide), if_neg (by decide), if_neg (by decide), if_pos rfl]))
    clear hR
    go_enter Tryz.func102, Tryz.ntmps102
    go_wp2_with fail
    rw [← hWXH.out]
    refine hC.out.mono ?_
    rintro e w1 ⟨rfl, g1⟩
    have G1 := hid (hfin.out _ _ g1)
    clear g1
    go_wp2
    go_end0
    exact ⟨rfl, by rw [hRR.out]; exact G1.out⟩
  rcases Classical.em (k = 5) with e5 | e5
  · subst e5
    have hC := hid (hst0.out.w hBX ⟨#[60, 113, 117, 111, 116, 101, 62, 10]⟩ (by rw [size_lit]; simp only [List.size_toArray, List.length_cons, List.length_nil]; omega))
    have hRR : Hid (R = _) := hid (hR.trans (by rw [if_neg (by decide), if_neg (by decide), if_neg (by decide), if_neg (by decide), if_pos rfl]))
    have hK : Hid (∀ w1, Wrote 124 B b (l ++ [60, 113, 117, 111, 116, 101, 62, 10]) WX w1 → Calls Tryz.prog 71 #[.pointer (some ⟨b, 0, none⟩), .slice ka kn kc, .bool false] w1 fun e w2 => e = .returned (.tuple #[]) ∧ Wrote 124 B b ((l ++ [60, 113, 117, 111, 116, 101, 62, 10]) ++ blksHt contH false kids) WX w2) := hid (fun w1 h => (hQk B b A w0 ka kn kc false _ w1 hA hrep (hbX0.out _ _ h) (henXH.out.below h.2.1) h.1 (Nat.le_trans hBX h.2.1.size) hfk (by simp only [List.length_append, List.length_cons, List.length_nil]; omega)).mono (fun e w2 ⟨g1, g2⟩ => ⟨g1, h.trans g2⟩))
    clear hR
    go_enter Tryz.func102, Tryz.ntmps102
    go_wp2_with fail
    rw [← hWXH.out]
    refine hC.out.mono ?_
    rintro e w1 ⟨rfl, g1⟩
    have y7 := cell_blk (hkX.out _ _ g1) 7 _ rfl
    have G1 := hid g1
    clear g1
    go_wp2_with fail
    refine (hK.out _ G1.out).mono ?_
    rintro e w2 ⟨rfl, g2⟩
    have G2 := hid g2
    clear g2
    go_wp2_with fail
    refine (G2.out.w hBX ⟨#[60, 47, 113, 117, 111, 116, 101, 62, 10]⟩ (by rw [size_lit]; simp only [List.size_toArray, List.length_append, List.length_cons, List.length_nil]; omega)).mono ?_
    rintro e w3 ⟨rfl, g3⟩
    have G3 := hid (hfin.out _ _ g3)
    clear g3
    go_wp2
    go_end0
    exact ⟨rfl, by rw [hRR.out]; simpa [List.append_assoc] using G3.out⟩
  rcases Classical.em (k = 6) with e6 | e6
  · subst e6
    have hC := hid (wlist_any B b A w0 l WX hA (hbX0.out _ _ hst0.out) hst0.out.1 hBX henXH.out 6 li la lz lc n info text loose ka kn kc kids hrep hQ hfk h0 h1 (by omega))
    have hRR : Hid (R = _) := hid (hR.trans (by rw [if_neg (by decide), if_neg (by decide), if_neg (by decide), if_neg (by decide), if_neg (by decide), if_pos rfl]))
    clear hR
    go_enter Tryz.func102, Tryz.ntmps102
    go_wp2_with fail
    rw [← hWXH.out]
    refine hC.out.mono ?_
    rintro e w1 ⟨rfl, g1⟩
    have G1 := hid (hfin.out _ _ g1)
    clear g1
    go_wp2
    go_end0
    exact ⟨rfl, by rw [hRR.out]; exact G1.out⟩
  · have hRR : Hid (R = []) := hid (by rw [hR, if_neg e1, if_neg e2, if_neg e3, if_neg e4, if_neg e5, if_neg e6])
    have q1 : (k == 1) = false := by rw [beq_eq_false_iff_ne]; exact e1
    have q2 : (k == 2) = false := by rw [beq_eq_false_iff_ne]; exact e2
    have q3 : (k == 3) = false := by rw [beq_eq_false_iff_ne]; exact e3
    have q4 : (k == 4) = false := by rw [beq_eq_false_iff_ne]; exact e4
    have q5 : (k == 5) = false := by rw [beq_eq_false_iff_ne]; exact e5
    have q6 : (k == 6) = false := by rw [beq_eq_false_iff_ne]; exact e6
    clear hR e1 e2 e3 e4 e5 e6
    have G1 := hid (hfin.out _ _ hst0.out)
    go_enter Tryz.func102, Tryz.ntmps102
    go_wp2
    rw [← hWXH.out]
    go_end0
    exact ⟨rfl, by rw [hRR.out, List.append_nil]; exact G1.out⟩

set_option maxRecDepth 100000 in
set_option maxHeartbeats 8000000 in
theorem wblocks_any (N : Nat) : ∀ (ts : List S.Blk), pgL ts ≤ N → BlocksOK ts := by
  induction N using Nat.strongRecOn with
  | _ N ih =>
  intro ts hN B b A w0 ka kn kc tight l w hA hrep hb0 henv hbl hB hfit hl
  obtain ⟨hkn, hview⟩ := rep_view hrep
  have hlen := pgL_len ts
  have hW0 := hid (Wrote.refl hbl)
  have hviewH := hid hview
  have hfitH := hid hfit
  have hb0H := hid hb0
  have henvH := hid henv
  have ihH := hid ih
  have hNH := hid hN
  clear hrep hview hbl hfit hb0 henv ih hN
  subst hkn
  go_enter Tryz.func71, Tryz.ntmps71
  go_wp2
  go_loopw [7, 10] (fun _ i wr => ∃ j : Nat, j ≤ ts.length ∧ i = .int .i64 j ∧ Hid (Wrote 124 B b (l ++ blksHt contH tight (ts.take j)) w wr)) (fun _ i _ => ts.length - (intOf i).toNat)
  case atStart => exact ⟨0, Nat.zero_le _, rfl, by simpa [blksHt] using hW0⟩
  case round =>
    obtain ⟨j, hj, rfl, hW⟩ := hrel
    by_cases hlt : j < ts.length
    · obtain ⟨t, ht⟩ : ∃ t, ts[j]? = some t := ⟨ts[j], List.getElem?_eq_getElem hlt⟩
      obtain ⟨g, o, la, lz, lc, kv, hka, hg, hrk, c0, c1, c2, c3, c4, c5, c6, c7⟩ := hviewH.out j t ht
      obtain ⟨a2, n2, cp2, rfl⟩ := hrk.form
      have hle := blksHt_le tight (ts.take j) (fitL_take ts hfitH.out j)
      have hle3 := pgL_take_le ts (j + 1)
      rw [pgL_take ts j t ht] at hle3
      have hft := fitL_get ts hfitH.out j t ht
      have hbw := hb0H.out.trans hW.out.2.1
      have hgB := hA g hg
      have hcell : ∀ q, wr.cell? ⟨g, o + j * 8 + q, none⟩ = w0.cell? ⟨g, o + j * 8 + q, none⟩ := fun q => hbw.cell (p := ⟨g, o + j * 8 + q, none⟩) hgB
      have hsn : Hid (l ++ blksHt contH tight (ts.take (j + 1)) = (l ++ blksHt contH tight (ts.take j)) ++ blkHt contH tight t) := hid (by rw [blksHt_take tight ts j t ht, List.append_assoc])
      obtain ⟨z, k, n, info, text, loose, kids⟩ := t
      simp only [S.Blk.kind, S.Blk.line, S.Blk.n, S.Blk.info, S.Blk.text, S.Blk.loose, S.Blk.kids] at c0 c1 c2 c3 c4 c5 c6 c7 hrk
      have d0 := (hcell 0).trans c0
      have d1 := (hcell 1).trans c1
      have d2 := (hcell 2).trans c2
      have d3 := (hcell 3).trans c3
      have d4 := (hcell 4).trans c4
      have d5 := (hcell 5).trans c5
      have d6 := (hcell 6).trans c6
      have d7 := (hcell 7).trans c7
      rw [Nat.add_zero] at d0
      have hBr : B ≤ wr.heap.size := Nat.le_trans hB hW.out.2.1.size
      obtain ⟨X2, hX2⟩ : ∃ X2, X2 = Obj.cells #[.int .i64 k, .int .i64 z, .slice la lz lc, .int .i64 n, .string (S.B info), .string (S.B text), .bool loose, .slice a2 n2 cp2] 110 := ⟨_, rfl⟩
      have hWa := hW.out.allocd hBr X2
      have hpk : pgL kids < N := by
        have := hNH.out
        have h2 := pgB_eq (.at_ z k n info text loose kids)
        simp only [S.Blk.kids] at h2
        omega
      have hC : Hid (Calls Tryz.prog 102 #[.pointer (some ⟨b, 0, none⟩), .agg #[.int .i64 k, .int .i64 z, .slice la lz lc, .int .i64 n, .string (S.B info), .string (S.B text), .bool loose, .slice a2 n2 cp2], .bool tight] (wr.alloc X2) fun e w2 => e = .returned (.tuple #[]) ∧ Hid (Wrote 124 B b (l ++ blksHt contH tight (ts.take (j + 1))) w w2)) := hid ((wblock_any B b A w0 _ (wr.alloc X2) hA (hb0H.out.trans hWa.2.1) hWa.1 (by simp; omega) (henvH.out.below hWa.2.1) k z la lz lc n info text loose a2 n2 cp2 tight kids hrk (ihH.out (pgL kids) hpk kids (Nat.le_refl _)) (fun i t hi => ihH.out (pgL t.kids) (by
          have h3 := pgL_take_le kids (i + 1)
          rw [pgL_take kids i t hi, pgB_eq] at h3
          omega) t.kids (Nat.le_refl _)) hft (by simp only [List.length_append]; omega)).mono (fun e w2 ⟨g1, g2⟩ => ⟨g1, hid (by rw [hsn.out]; exact hWa.trans g2)⟩))
      have hX2H := hid hX2
      have x2 : (wr.alloc X2).heap[wr.heap.size]? = some (.cells #[.int .i64 k, .int .i64 z, .slice la lz lc, .int .i64 n, .string (S.B info), .string (S.B text), .bool loose, .slice a2 n2 cp2] 110 (0, 0)) := by rw [hX2]; exact alloc_new _ _
      clear c0 c1 c2 c3 c4 c5 c6 c7 hcell hWa hbw hrk hft hX2 hpk x2
      subst hka
      go_wp2_with fail
      rw [← hX2H.out]
      refine hC.out.mono ?_
      rintro e w2 ⟨rfl, G2⟩
      go_wp2
      go_roundw
      case rel => exact ⟨j + 1, by omega, by go_num, G2⟩
      case measure => simp [intOf]; omega
    · have hje : j = ts.length := by omega
      subst hje
      rw [List.take_length] at hW
      go_wp2
      go_end0
      exact ⟨rfl, hW.out⟩
end Go.Proofs.YtlojgpkajkedeaaGreatDoor
