import Derived.Test.YtlojgpkajkedeaaGreatDoorPD
import Derived.Lib.ItoaLen
import Derived.Lib.LaidTab
import Derived.Test.YtlojgpkajkedeaaGreatDoorShelfI
import Derived.Lib.AppendIntMem
/- Parts between marks; a content. -/
namespace Go.Proofs.YtlojgpkajkedeaaGreatDoor
open Go.RowKit

set_option maxRecDepth 100000 in
set_option maxHeartbeats 8000000 in
theorem between_any (N : Nat) : ∀ (ps : List Pt), cntL ps ≤ N → BetweenOK ps := by
  induction N using Nat.strongRecOn with
  | _ N ih =>
  intro ps hN B b A kf kl l beg en w hbl hB hl hk
  obtain ⟨WA, hWA⟩ : ∃ WA, WA = w.alloc (.cells #[.pointer kf, .pointer kl] 135) := ⟨_, rfl⟩
  have hW0 : Wrote 124 B b l w WA := by rw [hWA]; exact (Wrote.refl hbl).allocd hB _
  have hC0 : WA.heap[w.heap.size]? = some (.cells #[.pointer kf, .pointer kl] 135 (0, 0)) := by rw [hWA]; exact alloc_new _ _
  have hkA : KRep WA A kf ps := by rw [hWA]; exact hk.alloc _
  have hBA : B ≤ WA.heap.size := Nat.le_trans hB hW0.2.1.size
  have hP0 : Hid (Calls Tryz.prog 60 #[.pointer (some ⟨b, 0, none⟩), .string beg] WA fun e w2 => e = .returned (.tuple #[.int .i64 beg.size, .nilIface]) ∧ w2.heap[w.heap.size]? = some (.cells #[.pointer kf, .pointer kl] 135 (0, 0)) ∧ Hid (Wrote 124 B b (l ++ (beg.data.toList ++ ptsHt [])) w w2 ∧ KRep w2 A kf ps)) := hid ((pwrite B b l beg WA hW0.1 (by omega) hBA).mono (fun e w2 ⟨h1, h2⟩ => ⟨h1, h2.blk hW0.1 hC0 (by decide) (by decide), hid ⟨by simpa [ptsHt] using hW0.trans h2, by
    obtain ⟨cs, hbb⟩ := bldF_heap hW0.1
    exact hkA.kept h2.2.2 hbb (by decide)⟩⟩))
  have ihH := hid ih
  have hNH := hid hN
  have hlH := hid hl
  have hWAH := hid hWA
  clear hbl hk ih hN hl hWA hW0 hC0 hkA hBA
  go_enter Tryz.func227, Tryz.ntmps227
  go_wp2_with fail
  rw [← hWAH.out]
  refine hP0.out.mono ?_
  rintro e w1 ⟨rfl, hc1, hst⟩
  have hF := hid (first_any w.heap.size 0 (.pointer kf) w1 (cell_blk hc1 0 _ rfl) ⟨_, rfl⟩)
  clear hc1
  go_wp2_with fail
  refine hF.out.mono ?_
  rintro e w' ⟨rfl, rfl⟩
  go_wp2
  go_loopg [8] ps.length (fun k s8 wr => ∃ (dn rs : List Pt) (v : Option Addr), s8 = .pointer v ∧ Hid (ps = dn ++ rs ∧ rs.length = k ∧ Wrote 124 B b (l ++ (beg.data.toList ++ ptsHt dn)) w wr ∧ KRep wr A v rs))
  case atStart => exact ⟨[], ps, kf, rfl, hid ⟨rfl, rfl, hst.out.1, hst.out.2⟩⟩
  case round =>
    obtain ⟨dn, rs, v, rfl, hrel'⟩ := hrel
    obtain ⟨hps, hrk, hW, hkr⟩ := hrel'.out
    clear hrel'
    have hBr : B ≤ wr.heap.size := Nat.le_trans hB hW.2.1.size
    have hl0 := hlH.out
    have hdl := ptsHt_le dn
    cases hkr with
    | nil =>
      rw [List.append_nil] at hps
      have hP : Hid (Calls Tryz.prog 60 #[.pointer (some ⟨b, 0, none⟩), .string en] wr fun e w2 => e = .returned (.tuple #[.int .i64 en.size, .nilIface]) ∧ Hid (Wrote 124 B b (l ++ (beg.data.toList ++ ptsHt ps ++ en.data.toList)) w w2)) := hid ((pwrite B b _ en wr hW.1 (by subst hps; simp only [List.length_append, S.length_data]; omega) hBr).mono (fun e w2 ⟨h1, h2⟩ => ⟨h1, hid (by
        have := hW.trans h2
        subst hps
        simpa [List.append_assoc] using this)⟩))
      clear hps hrk hW hl0 hdl
      go_wp2_with fail
      refine hP.out.mono ?_
      rintro e2 w2 ⟨rfl, h2⟩
      go_wp2
      go_end0
      exact ⟨rfl, h2.out⟩
    | cons e ah be r ha hb hke hr =>
      have hwp : wgL ps = wgL dn + wgP e.p + wgL r := by rw [hps, wgL_append, wgL_cons]; omega
      have hcK : cntL e.p.kids < N := by
        have := hNH.out
        rw [hps, cntL_append, cntL_cons, cntP_eq] at this
        omega
      have hPA := part_any e.p (ihH.out (cntL e.p.kids) hcK e.p.kids (Nat.le_refl _)) B b A e.kf e.kl (e.p.rs : Nat) e.p.ro e.p.rc _ wr hW.1 hBr (by simp only [List.length_append, S.length_data]; omega) hke
      have hstep : Hid (∀ w2, Wrote 124 B b ((l ++ (beg.data.toList ++ ptsHt dn)) ++ ptHt e.p) wr w2 → w2.cell? ⟨e.m, 9, none⟩ = some (.pointer be) ∧ Hid (ps = (dn ++ [e.p]) ++ r ∧ r.length = r.length ∧ Wrote 124 B b (l ++ (beg.data.toList ++ ptsHt (dn ++ [e.p]))) w w2 ∧ KRep w2 A be r)) := hid (fun w2 h2 => by
        obtain ⟨cs, hbb⟩ := bldF_heap hW.1
        refine ⟨cell_blk (kept_blk h2.2.2 hbb hb (by decide) (by decide)) 9 _ rfl, hid ⟨by rw [hps]; simp, rfl, ?_, hr.kept h2.2.2 hbb (by decide)⟩⟩
        have := hW.trans h2
        rw [ptsHt_append]
        simpa [ptsHt, List.append_assoc] using this)
      obtain ⟨kd, hkd⟩ : ∃ x, e.p.kind = x := ⟨_, rfl⟩
      obtain ⟨inf, hinf⟩ : ∃ x, S.B e.p.info = x := ⟨_, rfl⟩
      obtain ⟨tx, htx⟩ : ∃ x, S.B e.p.text = x := ⟨_, rfl⟩
      obtain ⟨m, hm⟩ : ∃ m, e.m = m := ⟨_, rfl⟩
      obtain ⟨kf1, hkf1⟩ : ∃ x, e.kf = x := ⟨_, rfl⟩
      obtain ⟨kl1, hkl1⟩ : ∃ x, e.kl = x := ⟨_, rfl⟩
      obtain ⟨rz, hrz⟩ : ∃ x : Int, ((e.p.rs : Nat) : Int) = x := ⟨_, rfl⟩
      obtain ⟨ro, hro⟩ : ∃ x, e.p.ro = x := ⟨_, rfl⟩
      obtain ⟨rc, hrc⟩ : ∃ x, e.p.rc = x := ⟨_, rfl⟩
      have hcs : memCells e ah be = [.int .i64 kd, .string inf, .string tx, .pointer kf1, .pointer kl1, .int .i64 rz, .bool ro, .bool rc, .pointer ah, .pointer be] := by
        unfold memCells; rw [hkd, hinf, htx, hkf1, hkl1, hrz, hro, hrc]
      rw [hcs, hm] at hb
      rw [hkd, hinf, htx, hkf1, hkl1, hrz, hro, hrc] at hPA
      rw [hm] at hstep
      have p0 : wr.cell? ⟨m, 0, none⟩ = some (.int .i64 kd) := cell_blk hb 0 _ rfl
      have p1 : wr.cell? ⟨m, 1, none⟩ = some (.string inf) := cell_blk hb 1 _ rfl
      have p2 : wr.cell? ⟨m, 2, none⟩ = some (.string tx) := cell_blk hb 2 _ rfl
      have p3 : wr.cell? ⟨m, 3, none⟩ = some (.pointer kf1) := cell_blk hb 3 _ rfl
      have p4 : wr.cell? ⟨m, 4, none⟩ = some (.pointer kl1) := cell_blk hb 4 _ rfl
      have p5 : wr.cell? ⟨m, 5, none⟩ = some (.int .i64 rz) := cell_blk hb 5 _ rfl
      have p6 : wr.cell? ⟨m, 6, none⟩ = some (.bool ro) := cell_blk hb 6 _ rfl
      have p7 : wr.cell? ⟨m, 7, none⟩ = some (.bool rc) := cell_blk hb 7 _ rfl
      have hv : (some e.ad : Option Addr) = some ⟨m, 0, none⟩ := by rw [Mem.ad, hm]
      have hPAH := hid hPA
      have hrkH := hid hrk
      clear hps hW hb hke hr hcs hkd hinf htx hkl1 hrz hro hrc hkf1 hwp hdl hl0 hrk hm hPA
      rw [hv]
      clear hv
      go_wp2_with fail
      refine hPAH.out.mono ?_
      rintro e2 w2 ⟨rfl, h2⟩
      obtain ⟨hc9, hr2⟩ := hstep.out w2 h2
      have hBh := hid (behind_any m (.pointer be) w2 hc9 ⟨_, rfl⟩)
      clear h2 hc9
      go_wp2_with fail
      refine hBh.out.mono ?_
      rintro e3 w3 ⟨rfl, rfl⟩
      go_wp2
      go_roundg r.length
      case rel => exact ⟨dn ++ [e.p], r, be, rfl, hid ⟨hr2.out.1, rfl, hr2.out.2.2⟩⟩
      case measure =>
        have := hrkH.out
        simp at this; omega

set_option maxRecDepth 100000 in
set_option maxHeartbeats 4000000 in
theorem wcont_any (B b : Nat) (l : List UInt8) (beg : ByteArray) (c : List UInt8) (en : ByteArray) (w : World) (hbl : PageF B b l w) (hB : B ≤ w.heap.size) (henv : Env w) (hc : c.length ≤ 300000) (hl : l.length + beg.size + 90 * c.length + en.size ≤ 1000000000) :
    Calls Tryz.prog 192 #[.pointer (some ⟨b, 0, none⟩), .string beg, .string (S.B c), .string en] w fun e w' => e = .returned (.tuple #[]) ∧ Wrote 124 B b (l ++ (beg.data.toList ++ contH c ++ en.data.toList)) w w' := by
  have hR := within_any (S.B c) w (by rw [S.size_B]; omega) henv
  rw [S.data_B] at hR
  have hw := contT_wg c
  have hst : Hid (∀ kf kl w1, KRep w1 (Tag w1) kf (contT c) → Below w.heap.size w w1 → Calls Tryz.prog 227 #[.pointer (some ⟨b, 0, none⟩), .string beg, .agg #[.pointer kf, .pointer kl], .string en] w1 fun e w' => e = .returned (.tuple #[]) ∧ Hid (Wrote 124 B b (l ++ (beg.data.toList ++ contH c ++ en.data.toList)) w w')) := hid (fun kf kl w1 h1 h2 => by
    have hW := (Wrote.refl hbl).below h2 hB
    exact (between_any _ (contT c) (Nat.le_refl _) B b (Tag w1) kf kl l beg en w1 hW.1 (Nat.le_trans hB h2.size) (by omega) h1).mono (fun e w' ⟨g1, g2⟩ => ⟨g1, hid (hW.trans g2)⟩))
  have hRH := hid hR
  clear hR hbl henv hw
  go_enter Tryz.func192, Tryz.ntmps192
  go_wp2_with fail
  refine hRH.out.mono ?_
  rintro e w1 ⟨kf, kl, rfl, h1, h2⟩
  have hs := hid (hst.out kf kl w1 h1 h2)
  clear h1 h2
  go_wp2_with fail
  refine hs.out.mono ?_
  rintro e w2 ⟨rfl, h3⟩
  go_wp2
  go_end0
  exact ⟨rfl, h3.out⟩
end Go.Proofs.YtlojgpkajkedeaaGreatDoor
/- Blocks as a page bears them: how long they are; which are written. -/
namespace Go.Proofs.YtlojgpkajkedeaaGreatDoor
open Go.RowKit

mutual
/-- How many bytes a block may be written with. -/
def pgB : S.Blk → Nat
  | .at_ _ _ _ i t _ kids => 120 + 6 * i.length + 96 * t.length + pgL kids
def pgL : List S.Blk → Nat
  | [] => 0
  | b :: r => pgB b + pgL r
end
mutual
/-- Blocks whose numbers and texts are not too great. -/
def fitB : S.Blk → Prop
  | .at_ _ _ n i t _ kids => -9223372036854775808 ≤ n ∧ n ≤ 9223372036854775807 ∧ i.length ≤ 300000 ∧ t.length ≤ 300000 ∧ fitL kids
def fitL : List S.Blk → Prop
  | [] => True
  | b :: r => fitB b ∧ fitL r
end
theorem pgB_eq (b : S.Blk) : pgB b = 120 + 6 * b.info.length + 96 * b.text.length + pgL b.kids := by cases b; simp only [pgB]; rfl
theorem pgL_append (a b : List S.Blk) : pgL (a ++ b) = pgL a + pgL b := by
  induction a with
  | nil => simp [pgL]
  | cons p r ih => simp only [List.cons_append, pgL, ih]; omega
theorem pgL_take (ts : List S.Blk) (k : Nat) (t : S.Blk) (h : ts[k]? = some t) : pgL (ts.take (k + 1)) = pgL (ts.take k) + pgB t := by
  rw [List.take_add_one, h, pgL_append]; simp [pgL]
theorem pgL_take_le (ts : List S.Blk) (k : Nat) : pgL (ts.take k) ≤ pgL ts := by
  conv => rhs; rw [← List.take_append_drop k ts, pgL_append]
  omega
theorem fitL_get (ts : List S.Blk) (h : fitL ts) (i : Nat) (t : S.Blk) (hi : ts[i]? = some t) : fitB t := by
  induction ts generalizing i with
  | nil => simp at hi
  | cons b r ih =>
    simp only [fitL] at h
    cases i with
    | zero => simp at hi; subst hi; exact h.1
    | succ i => exact ih h.2 i (by simpa using hi)
theorem fitL_take (ts : List S.Blk) (h : fitL ts) (k : Nat) : fitL (ts.take k) := by
  induction ts generalizing k with
  | nil => simp [fitL]
  | cons b r ih =>
    cases k with
    | zero => simp [fitL]
    | succ k => simp only [fitL, List.take_succ_cons] at *; exact ⟨h.1, ih h.2 k⟩
theorem listN_le (n : Int) : (listN n).length = 2 := by unfold listN; split <;> rfl
theorem word_le (l : List UInt8) : (S.word l).length ≤ l.length := by
  unfold S.word Lib.cut
  split <;> simp <;> omega
theorem listO_le (n : Int) (h0 : -9223372036854775808 ≤ n) (h1 : n ≤ 9223372036854775807) : (listO n).length ≤ 40 := by
  have := Lib.itoa_length_le n h0 h1
  unfold listO; split
  · simp only [List.length_append, List.length_cons, List.length_nil]; omega
  · simp
mutual
theorem blkHt_le (tight : Bool) : ∀ b : S.Blk, fitB b → (blkHt contH tight b).length ≤ pgB b
  | .at_ z k n i t lo kids => by
    intro hf
    simp only [fitB] at hf
    have h1 := blksHt_le false kids hf.2.2.2.2
    have h2 := itemsHt_le (!lo) kids hf.2.2.2.2
    have h3 := contH_le t
    have h4 := Lib.itoa_length_le n hf.1 hf.2.1
    have h5 := S.escH_le (S.word i)
    have h6 := word_le i
    have h7 := S.escH_le t
    have h8 := listN_le n
    have h9 := listO_le n hf.1 hf.2.1
    simp only [blkHt, pgB]
    (repeat' split) <;> (try simp only [List.length_append, List.length_cons, List.length_nil]) <;> omega
theorem blksHt_le (tight : Bool) : ∀ l : List S.Blk, fitL l → (blksHt contH tight l).length ≤ pgL l
  | [] => by intro _; simp [blksHt]
  | b :: r => by
    intro hf
    simp only [fitL] at hf
    have h1 := blkHt_le tight b hf.1
    have h2 := blksHt_le tight r hf.2
    simp only [blksHt, List.length_append, pgL]; omega
theorem itemsHt_le (tight : Bool) : ∀ l : List S.Blk, fitL l → (itemsHt contH tight l).length ≤ pgL l
  | [] => by intro _; simp [itemsHt]
  | b :: r => by
    intro hf
    simp only [fitL] at hf
    have h1 := itemHt_le tight b hf.1
    have h2 := itemsHt_le tight r hf.2
    simp only [itemsHt, List.length_append, pgL]; omega
theorem itemHt_le (tight : Bool) : ∀ b : S.Blk, fitB b → (itemHt contH tight b).length ≤ pgB b
  | .at_ z k n i t lo kids => by
    intro hf
    simp only [fitB] at hf
    have h1 := blksHt_le tight kids hf.2.2.2.2
    simp only [itemHt, pgB, List.length_append, List.length_cons, List.length_nil]; omega
end
theorem blksHt_take (tight : Bool) (ts : List S.Blk) (k : Nat) (t : S.Blk) (h : ts[k]? = some t) : blksHt contH tight (ts.take (k + 1)) = blksHt contH tight (ts.take k) ++ blkHt contH tight t := by
  rw [List.take_add_one, h, blksHt_append]; simp [blksHt]
theorem itemsHt_take (tight : Bool) (ts : List S.Blk) (k : Nat) (t : S.Blk) (h : ts[k]? = some t) : itemsHt contH tight (ts.take (k + 1)) = itemsHt contH tight (ts.take k) ++ itemHt contH tight t := by
  rw [List.take_add_one, h, itemsHt_append]; simp [itemsHt]
end Go.Proofs.YtlojgpkajkedeaaGreatDoor
/- Blocks: as a page bears them. -/
namespace Go.Proofs.YtlojgpkajkedeaaGreatDoor
open Go.RowKit

/-- What the writing of blocks takes of the library's variables. -/
def EnvP (B : Nat) (w : World) : Prop := Env w ∧ (3 < B ∧ 0 < B) ∧ Lib.TabIs Tryz.prog w "internal/strconv.uint64pow10" .u64 Lib.pow10Tab ∧ ∃ g, Tryz.prog.globalNamed "internal/strconv.uint64pow10" = some g ∧ g < B
theorem EnvP.below {B : Nat} {w w' : World} (h : EnvP B w) (hb : Below B w w') : EnvP B w' := by
  obtain ⟨h1, ⟨h2, h3⟩, h4, g, h5, h6⟩ := h
  refine ⟨h1.belowB h2 h3 hb, ⟨h2, h3⟩, ?_, g, h5, h6⟩
  unfold Lib.TabIs World.var? at *
  rw [h5] at h4 ⊢
  simp only [Option.bind_some] at h4 ⊢
  rw [hb.block g h6]; exact h4
theorem Wrote.w {B b : Nat} {l : List UInt8} {w w1 : World} (h : Wrote 124 B b l w w1) (hB : B ≤ w.heap.size) (x : ByteArray) (hl : l.length + x.size ≤ 1000000000) : Calls Tryz.prog 60 #[.pointer (some ⟨b, 0, none⟩), .string x] w1 fun e w2 => e = .returned (.tuple #[.int .i64 x.size, .nilIface]) ∧ Wrote 124 B b (l ++ x.data.toList) w w2 :=
  (pwrite B b l x w1 h.1 hl (Nat.le_trans hB h.2.1.size)).mono (fun _ _ ⟨h1, h2⟩ => ⟨h1, h.trans h2⟩)
theorem Wrote.b {B b : Nat} {l : List UInt8} {w w1 : World} (h : Wrote 124 B b l w w1) (hB : B ≤ w.heap.size) (x : UInt8) (hl : l.length + 1 ≤ 1000000000) : Calls Tryz.prog 151 #[.pointer (some ⟨b, 0, none⟩), .int .u8 (x.toNat : Int)] w1 fun e w2 => e = .returned .nilIface ∧ Wrote 124 B b (l ++ [x]) w w2 :=
  (pwriteB B b l x w1 h.1 hl (Nat.le_trans hB h.2.1.size)).mono (fun _ _ ⟨h1, h2⟩ => ⟨h1, h.trans h2⟩)
theorem Wrote.e {B b : Nat} {l : List UInt8} {w w1 : World} (h : Wrote 124 B b l w w1) (hB : B ≤ w.heap.size) (x : ByteArray) (hl : l.length + 6 * x.size ≤ 1000000000) : Calls Tryz.prog 195 #[.pointer (some ⟨b, 0, none⟩), .string x] w1 fun e w2 => e = .returned (.tuple #[]) ∧ Wrote 124 B b (l ++ S.escH x.data.toList) w w2 :=
  (wesc_any B b l x w1 h.1 hl (Nat.le_trans hB h.2.1.size)).mono (fun _ _ ⟨h1, h2⟩ => ⟨h1, h.trans h2⟩)
theorem Wrote.c {B b : Nat} {l : List UInt8} {w w1 : World} (h : Wrote 124 B b l w w1) (hB : B ≤ w.heap.size) (henv : EnvP B w) (beg : ByteArray) (c : List UInt8) (en : ByteArray) (hc : c.length ≤ 300000) (hl : l.length + beg.size + 90 * c.length + en.size ≤ 1000000000) : Calls Tryz.prog 192 #[.pointer (some ⟨b, 0, none⟩), .string beg, .string (S.B c), .string en] w1 fun e w2 => e = .returned (.tuple #[]) ∧ Wrote 124 B b (l ++ (beg.data.toList ++ contH c ++ en.data.toList)) w w2 :=
  (wcont_any B b l beg c en w1 h.1 (Nat.le_trans hB h.2.1.size) (henv.below h.2.1).1 hc hl).mono (fun _ _ ⟨h1, h2⟩ => ⟨h1, h.trans h2⟩)
theorem Wrote.i {B b : Nat} {l : List UInt8} {w w1 : World} (h : Wrote 124 B b l w w1) (hB : B ≤ w.heap.size) (henv : EnvP B w) (n : Int) (h0 : -9223372036854775808 ≤ n) (h1 : n ≤ 9223372036854775807) : Calls Tryz.prog 193 #[.int .i64 n] w1 fun e w2 => e = .returned (.string (S.B (Lib.itoa n))) ∧ Wrote 124 B b l w w2 := by
  refine (Tryz.strconv_Itoa n h0 h1 w1 (henv.below h.2.1).2.2.1).mono ?_
  rintro e w2 ⟨rfl, k, os, rfl⟩
  exact ⟨rfl, h.below (Lib.below_grow _ w1 (Nat.le_refl _) k os) (Nat.le_trans hB h.2.1.size)⟩
theorem drewN_below (w : World) (n : Nat) : Below w.heap.size w (w.drewN n) := by
  induction n with
  | zero => exact Below.refl _ _
  | succ n ih => exact Below.drew ih
theorem data_app (x y : ByteArray) : (x ++ y).data.toList = x.data.toList ++ y.data.toList := by simp [ByteArray.data_append]
theorem size_app (x y : ByteArray) : (x ++ y).size = x.size + y.size := by simp [ByteArray.size_append]
set_option maxRecDepth 100000 in
set_option maxHeartbeats 8000000 in
theorem wpar_any (B b : Nat) (l : List UInt8) (w : World) (hbl : PageF B b l w) (hB : B ≤ w.heap.size) (henv : EnvP B w) (k li : Int) (la : Option Addr) (lz lc : Nat) (n : Int) (info text : List UInt8) (loose : Bool) (ka : Option Addr) (kn kc : Nat) (tight : Bool) (hc : text.length ≤ 300000) (hl : l.length + 120 + 6 * info.length + 96 * text.length ≤ 1000000000) :
    Calls Tryz.prog 147 #[.pointer (some ⟨b, 0, none⟩), .agg #[.int .i64 k, .int .i64 li, .slice la lz lc, .int .i64 n, .string (S.B info), .string (S.B text), .bool loose, .slice ka kn kc], .bool tight] w fun e w' => e = .returned (.tuple #[]) ∧ Wrote 124 B b (l ++ (if tight = true then contH text ++ [10] else [60, 112, 62] ++ contH text ++ [60, 47, 112, 62, 10])) w w' := by
  obtain ⟨WX, hWX⟩ : ∃ WX, WX = w.alloc (.cells #[.int .i64 k, .int .i64 li, .slice la lz lc, .int .i64 n, .string (S.B info), .string (S.B text), .bool loose, .slice ka kn kc] 110) := ⟨_, rfl⟩
  have hW0 : Wrote 124 B b l w WX := by rw [hWX]; exact (Wrote.refl hbl).allocd hB _
  have hX0 : WX.heap[w.heap.size]? = some (.cells #[.int .i64 k, .int .i64 li, .slice la lz lc, .int .i64 n, .string (S.B info), .string (S.B text), .bool loose, .slice ka kn kc] 110 (0, 0)) := by rw [hWX]; exact alloc_new _ _
  have stX : Hid (∀ l' w1, Wrote 124 B b l' w w1 → Wrote 124 B b l' WX w1 → w1.heap[w.heap.size]? = some (.cells #[.int .i64 k, .int .i64 li, .slice la lz lc, .int .i64 n, .string (S.B info), .string (S.B text), .bool loose, .slice ka kn kc] 110 (0, 0))) := hid (fun l' w1 _ h => h.blk hW0.1 hX0 (by decide) (by decide))
  have hBX : B ≤ WX.heap.size := Nat.le_trans hB hW0.2.1.size
  have henX : EnvP B WX := henv.below hW0.2.1
  have hst0 := hid (Wrote.refl hW0.1)
  have hfin : Hid (∀ l' w1, Wrote 124 B b l' WX w1 → Wrote 124 B b l' w w1) := hid (fun l' w1 h => hW0.trans h)
  have hkX : Hid (∀ l' w1, Wrote 124 B b l' WX w1 → w1.heap[w.heap.size]? = some (.cells #[.int .i64 k, .int .i64 li, .slice la lz lc, .int .i64 n, .string (S.B info), .string (S.B text), .bool loose, .slice ka kn kc] 110 (0, 0))) := hid (fun l' w1 h => h.blk hW0.1 hX0 (by decide) (by decide))
  have hWXH := hid hWX
  have henXH := hid henX
  have x3 : WX.cell? ⟨w.heap.size, 3, none⟩ = some (.int .i64 n) := cell_blk hX0 3 _ rfl
  have x4 : WX.cell? ⟨w.heap.size, 4, none⟩ = some (.string (S.B info)) := cell_blk hX0 4 _ rfl
  have x5 : WX.cell? ⟨w.heap.size, 5, none⟩ = some (.string (S.B text)) := cell_blk hX0 5 _ rfl
  have x6 : WX.cell? ⟨w.heap.size, 6, none⟩ = some (.bool loose) := cell_blk hX0 6 _ rfl
  have x7 : WX.cell? ⟨w.heap.size, 7, none⟩ = some (.slice ka kn kc) := cell_blk hX0 7 _ rfl
  clear hbl hX0 hW0 hWX stX henX henv
  cases tight
  · have hC := hid (hst0.out.c hBX henXH.out ⟨#[60, 112, 62]⟩ text ⟨#[60, 47, 112, 62, 10]⟩ hc (by rw [size_lit, size_lit]; simp only [List.size_toArray, List.length_cons, List.length_nil]; omega))
    go_enter Tryz.func147, Tryz.ntmps147
    go_wp2_with fail
    rw [← hWXH.out]
    refine hC.out.mono ?_
    rintro e w1 ⟨rfl, h1⟩
    have h1H := hid h1
    clear h1
    go_wp2
    go_end0
    exact ⟨rfl, hfin.out _ _ h1H.out⟩
  · have hC := hid (hst0.out.c hBX henXH.out ⟨#[]⟩ text ⟨#[10]⟩ hc (by rw [size_lit, size_lit]; simp only [List.size_toArray, List.length_cons, List.length_nil]; omega))
    go_enter Tryz.func147, Tryz.ntmps147
    go_wp2_with fail
    rw [← hWXH.out]
    refine hC.out.mono ?_
    rintro e w1 ⟨rfl, h1⟩
    have h1H := hid h1
    clear h1
    go_wp2
    refine bodyPost_ret (v := .tuple #[]) (by simp [results, Tryz.results147, go_sem]) rfl ?_
    exact ⟨rfl, by have := hfin.out _ _ h1H.out; simpa using this⟩
set_option maxRecDepth 100000 in
set_option maxHeartbeats 8000000 in
theorem whead_any (B b : Nat) (l : List UInt8) (w : World) (hbl : PageF B b l w) (hB : B ≤ w.heap.size) (henv : EnvP B w) (k li : Int) (la : Option Addr) (lz lc : Nat) (n : Int) (info text : List UInt8) (loose : Bool) (ka : Option Addr) (kn kc : Nat) (h0 : -9223372036854775808 ≤ n) (h1 : n ≤ 9223372036854775807) (hc : text.length ≤ 300000) (hl : l.length + 120 + 6 * info.length + 96 * text.length ≤ 1000000000) :
    Calls Tryz.prog 148 #[.pointer (some ⟨b, 0, none⟩), .agg #[.int .i64 k, .int .i64 li, .slice la lz lc, .int .i64 n, .string (S.B info), .string (S.B text), .bool loose, .slice ka kn kc]] w fun e w' => e = .returned (.tuple #[]) ∧ Wrote 124 B b (l ++ ([60, 104] ++ Lib.itoa n ++ [62] ++ contH text ++ ([60, 47, 104] ++ Lib.itoa n ++ [62, 10]))) w w' := by
  obtain ⟨WX, hWX⟩ : ∃ WX, WX = w.alloc (.cells #[.int .i64 k, .int .i64 li, .slice la lz lc, .int .i64 n, .string (S.B info), .string (S.B text), .bool loose, .slice ka kn kc] 110) := ⟨_, rfl⟩
  have hW0 : Wrote 124 B b l w WX := by rw [hWX]; exact (Wrote.refl hbl).allocd hB _
  have hX0 : WX.heap[w.heap.size]? = some (.cells #[.int .i64 k, .int .i64 li, .slice la lz lc, .int .i64 n, .string (S.B info), .string (S.B text), .bool loose, .slice ka kn kc] 110 (0, 0)) := by rw [hWX]; exact alloc_new _ _
  have stX : Hid (∀ l' w1, Wrote 124 B b l' w w1 → Wrote 124 B b l' WX w1 → w1.heap[w.heap.size]? = some (.cells #[.int .i64 k, .int .i64 li, .slice la lz lc, .int .i64 n, .string (S.B info), .string (S.B text), .bool loose, .slice ka kn kc] 110 (0, 0))) := hid (fun l' w1 _ h => h.blk hW0.1 hX0 (by decide) (by decide))
  have hBX : B ≤ WX.heap.size := Nat.le_trans hB hW0.2.1.size
  have henX : EnvP B WX := henv.below hW0.2.1
  have hst0 := hid (Wrote.refl hW0.1)
  have hfin : Hid (∀ l' w1, Wrote 124 B b l' WX w1 → Wrote 124 B b l' w w1) := hid (fun l' w1 h => hW0.trans h)
  have hkX : Hid (∀ l' w1, Wrote 124 B b l' WX w1 → w1.heap[w.heap.size]? = some (.cells #[.int .i64 k, .int .i64 li, .slice la lz lc, .int .i64 n, .string (S.B info), .string (S.B text), .bool loose, .slice ka kn kc] 110 (0, 0))) := hid (fun l' w1 h => h.blk hW0.1 hX0 (by decide) (by decide))
  have hWXH := hid hWX
  have henXH := hid henX
  have x3 : WX.cell? ⟨w.heap.size, 3, none⟩ = some (.int .i64 n) := cell_blk hX0 3 _ rfl
  have x4 : WX.cell? ⟨w.heap.size, 4, none⟩ = some (.string (S.B info)) := cell_blk hX0 4 _ rfl
  have x5 : WX.cell? ⟨w.heap.size, 5, none⟩ = some (.string (S.B text)) := cell_blk hX0 5 _ rfl
  have x6 : WX.cell? ⟨w.heap.size, 6, none⟩ = some (.bool loose) := cell_blk hX0 6 _ rfl
  have x7 : WX.cell? ⟨w.heap.size, 7, none⟩ = some (.slice ka kn kc) := cell_blk hX0 7 _ rfl
  clear hbl hX0 hW0 hWX stX henX henv
  have hit := Lib.itoa_length_le n h0 h1
  have hI := hid (hst0.out.i hBX henXH.out n h0 h1)
  obtain ⟨lv, hlv⟩ : ∃ lv, S.B (Lib.itoa n) = lv := ⟨_, rfl⟩
  have hlz : lv.size ≤ 21 := by rw [← hlv, S.size_B]; exact hit
  rw [hlv] at hI
  have hlvH := hid hlv
  clear hlv hit
  go_enter Tryz.func148, Tryz.ntmps148
  go_wp2_with fail
  rw [← hWXH.out]
  refine hI.out.mono ?_
  rintro e w1 ⟨rfl, g1⟩
  have y5 := cell_blk (hkX.out _ _ g1) 5 _ rfl
  have G1 := hid g1
  clear g1
  go_wp2_with fail
  refine (G1.out.c hBX henXH.out _ text _ hc (by simp only [size_app, size_lit, List.size_toArray, List.length_cons, List.length_nil]; omega)).mono ?_
  rintro e w2 ⟨rfl, g2⟩
  have G2 := hid g2
  clear g2
  go_wp2
  go_end0
  refine ⟨rfl, ?_⟩
  have := hfin.out _ _ G2.out
  rw [← hlvH.out] at this
  simpa [data_app, S.data_B, List.append_assoc] using this
set_option maxRecDepth 100000 in
set_option maxHeartbeats 8000000 in
theorem wcode_any (B b : Nat) (l : List UInt8) (w : World) (hbl : PageF B b l w) (hB : B ≤ w.heap.size) (henv : EnvP B w) (k li : Int) (la : Option Addr) (lz lc : Nat) (n : Int) (info text : List UInt8) (loose : Bool) (ka : Option Addr) (kn kc : Nat) (hc : text.length ≤ 300000) (hi : info.length ≤ 300000) (hl : l.length + 120 + 6 * info.length + 96 * text.length ≤ 1000000000) :
    Calls Tryz.prog 149 #[.pointer (some ⟨b, 0, none⟩), .agg #[.int .i64 k, .int .i64 li, .slice la lz lc, .int .i64 n, .string (S.B info), .string (S.B text), .bool loose, .slice ka kn kc]] w fun e w' => e = .returned (.tuple #[]) ∧ Wrote 124 B b (l ++ ([60, 112, 114, 101, 62, 60, 99, 111, 100, 101] ++ (if info = [] then [] else [32, 99, 108, 97, 115, 115, 61, 34] ++ S.escH (S.word info) ++ [34]) ++ [62] ++ S.escH text ++ [60, 47, 99, 111, 100, 101, 62, 60, 47, 112, 114, 101, 62, 10])) w w' := by
  obtain ⟨WX, hWX⟩ : ∃ WX, WX = w.alloc (.cells #[.int .i64 k, .int .i64 li, .slice la lz lc, .int .i64 n, .string (S.B info), .string (S.B text), .bool loose, .slice ka kn kc] 110) := ⟨_, rfl⟩
  have hW0 : Wrote 124 B b l w WX := by rw [hWX]; exact (Wrote.refl hbl).allocd hB _
  have hX0 : WX.heap[w.heap.size]? = some (.cells #[.int .i64 k, .int .i64 li, .slice la lz lc, .int .i64 n, .string (S.B info), .string (S.B text), .bool loose, .slice ka kn kc] 110 (0, 0)) := by rw [hWX]; exact alloc_new _ _
  have stX : Hid (∀ l' w1, Wrote 124 B b l' w w1 → Wrote 124 B b l' WX w1 → w1.heap[w.heap.size]? = some (.cells #[.int .i64 k, .int .i64 li, .slice la lz lc, .int .i64 n, .string (S.B info), .string (S.B text), .bool loose, .slice ka kn kc] 110 (0, 0))) := hid (fun l' w1 _ h => h.blk hW0.1 hX0 (by decide) (by decide))
  have hBX : B ≤ WX.heap.size := Nat.le_trans hB hW0.2.1.size
  have henX : EnvP B WX := henv.below hW0.2.1
  have hst0 := hid (Wrote.refl hW0.1)
  have hfin : Hid (∀ l' w1, Wrote 124 B b l' WX w1 → Wrote 124 B b l' w w1) := hid (fun l' w1 h => hW0.trans h)
  have hkX : Hid (∀ l' w1, Wrote 124 B b l' WX w1 → w1.heap[w.heap.size]? = some (.cells #[.int .i64 k, .int .i64 li, .slice la lz lc, .int .i64 n, .string (S.B info), .string (S.B text), .bool loose, .slice ka kn kc] 110 (0, 0))) := hid (fun l' w1 h => h.blk hW0.1 hX0 (by decide) (by decide))
  have hWXH := hid hWX
  have henXH := hid henX
  have x3 : WX.cell? ⟨w.heap.size, 3, none⟩ = some (.int .i64 n) := cell_blk hX0 3 _ rfl
  have x4 : WX.cell? ⟨w.heap.size, 4, none⟩ = some (.string (S.B info)) := cell_blk hX0 4 _ rfl
  have x5 : WX.cell? ⟨w.heap.size, 5, none⟩ = some (.string (S.B text)) := cell_blk hX0 5 _ rfl
  have x6 : WX.cell? ⟨w.heap.size, 6, none⟩ = some (.bool loose) := cell_blk hX0 6 _ rfl
  have x7 : WX.cell? ⟨w.heap.size, 7, none⟩ = some (.slice ka kn kc) := cell_blk hX0 7 _ rfl
  clear hbl hX0 hW0 hWX stX henX henv
  have he1 := S.escH_le (S.word info)
  have he2 := word_le info
  have he3 := S.escH_le text
  have hCut : Hid (∀ w1 l', Wrote 124 B b l' WX w1 → Calls Tryz.prog 194 #[.string (S.B info), .string ⟨#[32]⟩] w1 fun e w2 => ∃ r f, e = .returned (.tuple #[.string (S.B (S.word info)), .string r, .bool f]) ∧ Wrote 124 B b l' WX w2) := hid (fun w1 l' h => by
    obtain ⟨m, hm⟩ := (henXH.out.below h.2.1).1.2.1
    have := Tryz.strings_Cut (S.B info) ⟨#[32]⟩ m w1 (by rw [S.size_B]; omega) hm
    rw [S.data_B] at this
    refine this.mono ?_
    rintro e w2 ⟨rfl, q, rfl⟩
    exact ⟨_, _, rfl, h.below (drewN_below _ _) (Nat.le_trans hBX h.2.1.size)⟩)
  obtain ⟨R, hR⟩ : ∃ R, R = l ++ ([60, 112, 114, 101, 62, 60, 99, 111, 100, 101] ++ (if info = [] then [] else [32, 99, 108, 97, 115, 115, 61, 34] ++ S.escH (S.word info) ++ [34]) ++ [62] ++ S.escH text ++ [60, 47, 99, 111, 100, 101, 62, 60, 47, 112, 114, 101, 62, 10]) := ⟨_, rfl⟩
  rw [← hR]
  have hRH := hid hR
  clear hR
  go_enter Tryz.func149, Tryz.ntmps149
  go_wp2_with fail
  rw [← hWXH.out]
  refine (hst0.out.w hBX ⟨#[60, 112, 114, 101, 62, 60, 99, 111, 100, 101]⟩ (by rw [size_lit]; simp only [List.size_toArray, List.length_cons, List.length_nil]; omega)).mono ?_
  rintro e w1 ⟨rfl, g1⟩
  have y1 := hkX.out _ _ g1
  have y14 := cell_blk y1 4 _ rfl
  have y15 := cell_blk y1 5 _ rfl
  have G1 := hid g1
  clear g1 y1
  by_cases hinf : info = []
  · subst hinf
    have hne : (S.B [] : ByteArray) = ⟨#[]⟩ := rfl
    rw [hne] at y14
    go_wp2_with fail
    refine (G1.out.b hBX 62 (by simp only [List.length_append, List.length_cons, List.length_nil]; omega)).mono ?_
    rintro e w2 ⟨rfl, g2⟩
    have y25 := cell_blk (hkX.out _ _ g2) 5 _ rfl
    have G2 := hid g2
    clear g2
    go_wp2_with fail
    refine (G2.out.e hBX (S.B text) (by rw [S.size_B]; simp only [List.length_append, List.length_cons, List.length_nil]; omega)).mono ?_
    rintro e w3 ⟨rfl, g3⟩
    rw [S.data_B] at g3
    have G3 := hid g3
    clear g3
    go_wp2_with fail
    refine (G3.out.w hBX ⟨#[60, 47, 99, 111, 100, 101, 62, 60, 47, 112, 114, 101, 62, 10]⟩ (by rw [size_lit]; simp only [List.size_toArray, List.length_append, List.length_cons, List.length_nil]; omega)).mono ?_
    rintro e w4 ⟨rfl, g4⟩
    have G4 := hid g4
    clear g4
    go_wp2
    go_end0
    refine ⟨rfl, ?_⟩
    have := hfin.out _ _ G4.out
    rw [hRH.out]
    simpa [List.append_assoc] using this
  · have hne : (S.B info).toList.isEmpty = false := by
      rw [ByteArray.toList_eq, S.data_B]
      cases info with
      | nil => exact absurd rfl hinf
      | cons c r => rfl
    have hif : Hid ((if info = [] then [] else [32, 99, 108, 97, 115, 115, 61, 34] ++ S.escH (S.word info) ++ [34]) = [32, 99, 108, 97, 115, 115, 61, 34] ++ S.escH (S.word info) ++ [34]) := hid (if_neg hinf)
    rw [hif.out] at hRH
    have hneH := hid hinf
    clear hinf
    go_wp2_with fail
    refine (hCut.out _ _ G1.out).mono ?_
    rintro e w2 ⟨r, f, rfl, g2⟩
    have G2 := hid g2
    clear g2
    go_wp2_with fail
    refine (G2.out.w hBX ⟨#[32, 99, 108, 97, 115, 115, 61, 34]⟩ (by rw [size_lit]; simp only [List.size_toArray, List.length_append, List.length_cons, List.length_nil]; omega)).mono ?_
    rintro e w3 ⟨rfl, g3⟩
    have G3 := hid g3
    clear g3
    go_wp2_with fail
    refine (G3.out.e hBX (S.B (S.word info)) (by rw [S.size_B]; simp only [List.length_append, List.length_cons, List.length_nil]; omega)).mono ?_
    rintro e w4 ⟨rfl, g4⟩
    rw [S.data_B] at g4
    have G4 := hid g4
    clear g4
    go_wp2_with fail
    refine (G4.out.b hBX 34 (by simp only [List.length_append, List.length_cons, List.length_nil]; omega)).mono ?_
    rintro e w5 ⟨rfl, g5⟩
    have G5 := hid g5
    clear g5
    go_wp2_with fail
    refine (G5.out.b hBX 62 (by simp only [List.length_append, List.length_cons, List.length_nil]; omega)).mono ?_
    rintro e w6 ⟨rfl, g6⟩
    have y65 := cell_blk (hkX.out _ _ g6) 5 _ rfl
    have G6 := hid g6
    clear g6
    go_wp2_with fail
    refine (G6.out.e hBX (S.B text) (by rw [S.size_B]; simp only [List.length_append, List.length_cons, List.length_nil]; omega)).mono ?_
    rintro e w7 ⟨rfl, g7⟩
    rw [S.data_B] at g7
    have G7 := hid g7
    clear g7
    go_wp2_with fail
    refine (G7.out.w hBX ⟨#[60, 47, 99, 111, 100, 101, 62, 60, 47, 112, 114, 101, 62, 10]⟩ (by rw [size_lit]; simp only [List.size_toArray, List.length_append, List.length_cons, List.length_nil]; omega)).mono ?_
    rintro e w8 ⟨rfl, g8⟩
    have G8 := hid g8
    clear g8
    go_wp2
    go_end0
    refine ⟨rfl, ?_⟩
    have := hfin.out _ _ G8.out
    rw [hRH.out]
    simpa [List.append_assoc] using this
end Go.Proofs.YtlojgpkajkedeaaGreatDoor
