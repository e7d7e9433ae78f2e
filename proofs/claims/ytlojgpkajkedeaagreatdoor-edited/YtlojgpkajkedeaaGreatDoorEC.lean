import Derived.Test.YtlojgpkajkedeaaGreatDoorPK
import Derived.Test.YtlojgpkajkedeaaGreatDoorShelfI
import Derived.Test.YtlojgpkajkedeaaGreatDoorE7
import Derived.ChangeKeysEq
import Derived.Test.YtlojgpkajkedeaaGreatDoorPN
/- Fingerprints: that they are told, and that nothing else changes. -/
namespace Go.Proofs.YtlojgpkajkedeaaGreatDoor
open Go.RowKit

set_option maxRecDepth 100000 in
set_option maxHeartbeats 2000000 in
theorem padd_any (b : Nat) (x y : Int) (c : UInt8) (w : World) (hb : w.heap[b]? = some (.cells #[.int .u64 x, .int .u64 y] 99 (0, 0))) :
    Calls Tryz.prog 103 #[.pointer (some ⟨b, 0, none⟩), .int .u8 (c.toNat : Int)] w fun e w' => e = .returned (.tuple #[]) ∧ Below b w w' ∧ ∃ x' y', w'.heap = ((w.setCell ⟨b, 0, none⟩ (.int .u64 x')).setCell ⟨b, 1, none⟩ (.int .u64 y')).heap := by
  have c0 : w.cell? ⟨b, 0, none⟩ = some (.int .u64 x) := cell_blk hb 0 _ rfl
  have c1 : w.cell? ⟨b, 1, none⟩ = some (.int .u64 y) := cell_blk hb 1 _ rfl
  have f0 : w.frozen? ⟨b, 0, none⟩ = false := free_blk hb 0
  have f1 : w.frozen? ⟨b, 1, none⟩ = false := free_blk hb 1
  have hbyte : c.toNat < 256 := c.toNat_lt
  clear hb
  go_enter Tryz.func103, Tryz.ntmps103
  go_wp2_with fail
  go_region
  go_wp2_with fail
  go_region
  go_wp2
  go_end0
  refine ⟨rfl, ?_, _, _, rfl⟩
  repeat (first | exact Below.refl _ _ | refine Below.drew ?_ | exact (Below.refl _ _ |>.setCell (p := ⟨b, 0, none⟩) (Nat.le_refl b) _).setCell (p := ⟨b, 1, none⟩) (Nat.le_refl b) _)

/-- A fingerprint in the making. -/
def PrIn (w wr : World) : Prop := Below w.heap.size w wr ∧ wr.heap.size = w.heap.size + 2 ∧ (∃ u v, wr.heap[w.heap.size]? = some (.cells #[.int .u64 u, .int .u64 v] 99 (0, 0))) ∧ ∃ x y, wr.heap[w.heap.size + 1]? = some (.cells #[.int .u64 x, .int .u64 y] 99 (0, 0))
theorem PrIn.add {w wr : World} (h : PrIn w wr) (c : UInt8) : Calls Tryz.prog 103 #[.pointer (some ⟨w.heap.size + 1, 0, none⟩), .int .u8 (c.toNat : Int)] wr fun e w' => e = .returned (.tuple #[]) ∧ Hid (PrIn w w') := by
  obtain ⟨h1, h2, ⟨u, v, h3⟩, x, y, h4⟩ := h
  refine (padd_any (w.heap.size + 1) x y c wr h4).mono ?_
  rintro e w' ⟨rfl, hbl, x', y', hw⟩
  have hb : ∀ (a : Addr) (u : Value) (wz : World) (g : Nat), a.block ≠ g → (wz.setCell a u).heap[g]? = wz.heap[g]? := fun a u wz g hg => Below.heap_setCell _ _ _ _ (fun e => hg e.symm)
  have hs : w'.heap.size = wr.heap.size := by rw [hw]; simp [World.setCell]
  have ho : ∀ g, g ≠ w.heap.size + 1 → w'.heap[g]? = wr.heap[g]? := fun g hg => by
    rw [hw, hb _ _ _ _ (by simpa using fun e => hg e.symm), hb _ _ _ _ (by simpa using fun e => hg e.symm)]
  refine ⟨rfl, hid ⟨?_, by omega, ⟨u, v, by rw [ho _ (by omega)]; exact h3⟩, x', y', ?_⟩⟩
  · exact h1.trans (hbl.mono (by omega))
  · rw [hw]; exact set_blk (set_blk h4 0 _) 1 _

set_option maxRecDepth 100000 in
set_option maxHeartbeats 2000000 in
theorem of_any (b o cap : Nat) (ss : List ByteArray) (w : World) (hbw : b < w.heap.size) (hrow : RowS w b o ss) (hlen : ss.length ≤ 1000000) :
    Calls Tryz.prog 76 #[.slice (some ⟨b, o, none⟩) ss.length cap] w fun e w' => ∃ x y, e = .returned (.agg #[.int .u64 x, .int .u64 y]) ∧ Below w.heap.size w w' := by
  have hrowH := hid hrow
  clear hrow
  go_enter Tryz.func76, Tryz.ntmps76
  go_wp2
  go_loopw [5, 6, 10] (fun _ _ i wr => ∃ k : Nat, k ≤ ss.length ∧ i = .int .i64 k ∧ Hid (PrIn w wr)) (fun _ _ i _ => ss.length - (intOf i).toNat)
  case atStart =>
    refine ⟨0, Nat.zero_le _, rfl, hid ⟨((Below.refl _ _).alloc (Nat.le_refl _) _).alloc (by simp) _, by simp, ⟨0, 0, ?_⟩, 14695981039346656037, 14695981039346656037, ?_⟩⟩
    · rw [Below.heap_alloc _ _ _ (by simp)]; exact alloc_new _ _
    · have := alloc_new (w.alloc (Obj.cells #[Value.int IntKind.u64 0, Value.int IntKind.u64 0] 99)) (Obj.cells #[Value.int IntKind.u64 14695981039346656037, Value.int IntKind.u64 14695981039346656037] 99)
      simpa using this
  case round =>
    obtain ⟨k, hk, rfl, hP⟩ := hrel
    by_cases hlt : k < ss.length
    · obtain ⟨s, hs⟩ : ∃ s, ss[k]? = some s := ⟨ss[k], List.getElem?_eq_getElem hlt⟩
      have hc0 := hrowH.out.1 k s hs
      have hsz := (hrowH.out.row k s hs).2
      have hc : wr.cell? ⟨b, o + k, none⟩ = some (.string s) := (hP.out.1.cell (p := ⟨b, o + k, none⟩) hbw).trans hc0
      have hI0 : (0 : Int) ≤ (k : Int) := by omega
      have hI1 : (k : Int) < (ss.length : Int) := by omega
      clear hc0 hs
      go_wp2
      go_loopw [6, 16] (fun _ i wr2 => ∃ j : Nat, j ≤ s.size ∧ i = .int .i64 j ∧ Hid (PrIn w wr2)) (fun _ i _ => s.size - (intOf i).toNat)
      case atStart => exact ⟨0, Nat.zero_le _, rfl, hP⟩
      case round =>
        obtain ⟨j, hj, rfl, hP2⟩ := hrel
        by_cases hjl : j < s.size
        · have hJ0 : (0 : Int) ≤ (j : Int) := by omega
          have hJ1 : (j : Int) < (s.size : Int) := by omega
          have hA := hid (hP2.out.add s[j])
          go_wp2_with fail
          refine hA.out.mono ?_
          rintro e w2 ⟨rfl, hP3⟩
          go_wp2
          go_roundw
          case rel => exact ⟨j + 1, by omega, by go_num, hP3⟩
          case measure => simp [intOf]; omega
        · have hJ1 : ¬ (j : Int) < (s.size : Int) := by omega
          have hA := hid (hP2.out.add 10)
          go_wp2_with fail
          refine hA.out.mono ?_
          rintro e w2 ⟨rfl, hP3⟩
          go_wp2
          go_roundw
          case rel => exact ⟨k + 1, by omega, by go_num, hP3⟩
          case measure => simp [intOf]; omega
    · have hI1 : ¬ (k : Int) < (ss.length : Int) := by omega
      obtain ⟨h1, h2, ⟨u, v, h3⟩, x, y, h4⟩ := hP.out
      have h1H := hid h1
      have d0 : wr.cell? ⟨w.heap.size + 1, 0, none⟩ = some (.int .u64 x) := cell_blk h4 0 _ rfl
      have d1 : wr.cell? ⟨w.heap.size + 1, 1, none⟩ = some (.int .u64 y) := cell_blk h4 1 _ rfl
      have f0 : wr.frozen? ⟨w.heap.size, 0, none⟩ = false := free_blk h3 0
      have f1 : wr.frozen? ⟨w.heap.size, 1, none⟩ = false := free_blk h3 1
      have e0 : wr.cell? ⟨w.heap.size, 0, none⟩ = some (.int .u64 u) := cell_blk h3 0 _ rfl
      have e1 : wr.cell? ⟨w.heap.size, 1, none⟩ = some (.int .u64 v) := cell_blk h3 1 _ rfl
      have hz : w.heap.size < wr.heap.size := by omega
      have hfin : Hid (((wr.setCell ⟨w.heap.size, 0, none⟩ (.int .u64 x)).setCell ⟨w.heap.size, 1, none⟩ (.int .u64 y)).heap[w.heap.size]? = some (.cells #[.int .u64 x, .int .u64 y] 99 (0, 0))) := hid (set_blk (set_blk h3 0 _) 1 _)
      clear h1 h2 h3 h4 hP
      go_wp2
      refine bodyPost_ret (v := .agg #[.int .u64 x, .int .u64 y]) (by have z0 := cell_blk hfin.out 0 (.int .u64 x) rfl; have z1 := cell_blk hfin.out 1 (.int .u64 y) rfl; simp [results, Tryz.results76, go_sem, z0, z1]) rfl ⟨⟨x, y, rfl⟩, (h1H.out.setCell (Nat.le_refl _) _).setCell (Nat.le_refl _) _⟩
end Go.Proofs.YtlojgpkajkedeaaGreatDoor
/- Pieces: the one with the same lines. -/
namespace Go.Proofs.YtlojgpkajkedeaaGreatDoor
open Go.RowKit

/-- A piece in memory: its lines, its print, where it begins, its page, its titles. -/
structure Pm where
  lb : Nat
  lo : Nat
  lc : Nat
  ss : List ByteArray
  x : Int
  y : Int
  at_ : Int
  page : ByteArray
  tv : Value
def pmCells (p : Pm) : List Value := [.slice (some ⟨p.lb, p.lo, none⟩) p.ss.length p.lc, .int .u64 p.x, .int .u64 p.y, .int .i64 p.at_, .string p.page, p.tv]
/-- Pieces lie there, and their lines. -/
def PcRow (w : World) (a : Option Addr) (ps : List Pm) : Prop := ∀ (i : Nat) (p : Pm), ps[i]? = some p → ∃ g, a = some ⟨g, 0, none⟩ ∧ g < w.heap.size ∧ (∀ j u, (pmCells p)[j]? = some u → w.cell? ⟨g, i * 6 + j, none⟩ = some u) ∧ p.lb < w.heap.size ∧ RowS w p.lb p.lo p.ss ∧ p.ss.length ≤ 1000000
theorem PcRow.below {w w' : World} {a : Option Addr} {ps : List Pm} (h : PcRow w a ps) (hb : Below w.heap.size w w') : PcRow w' a ps := by
  intro i p hi
  obtain ⟨g, h1, h2, h3, h4, h5, h6⟩ := h i p hi
  have := hb.size
  exact ⟨g, h1, by omega, fun j u hu => (hb.cell (p := ⟨g, i * 6 + j, none⟩) h2).trans (h3 j u hu), by omega, h5.below hb h4, h6⟩

theorem Tryz.cellsU64 : Tryz.prog.cellsOf 97 = 1 := by kernel_rfl
theorem Tryz.someU64 : (Tryz.prog.info? 97).isSome = true := by kernel_rfl
theorem Tryz.guardPrint : Tryz.prog.eqGuardType Tryz.prog.depth 99 = false := by kernel_rfl
theorem print_eql (w : World) (a b c d : Int) : (Op.equalIn 10000 99 (.agg #[.int .u64 a, .int .u64 b]) (.agg #[.int .u64 c, .int .u64 d])).run Tryz.prog w = .ok ((a == c) && (b == d)) w := by
  obtain ⟨i, hi⟩ := Option.isSome_iff_exists.1 Tryz.someU64
  rw [show (10000 : Nat) = 9999 + 1 from rfl, run_equalIn_array w 9999 _ _ Tryz.underlying99 hi, Tryz.cellsU64]
  simp only [show List.range 2 = [0, 1] from rfl, Op.eqItems, Sem.run_bind]
  simp [go_sem, Tryz.underlying97]
  by_cases h1 : a = c <;> by_cases h2 : b = d <;> simp [h1, h2]

set_option maxRecDepth 100000 in
set_option maxHeartbeats 4000000 in
theorem find_any (ps : List Pm) (a : Option Addr) (cp : Nat) (from_ : Nat) (q : Pm) (w : World) (hrow : PcRow w a ps) (hq : RowS w q.lb q.lo q.ss) (hqb : q.lb < w.heap.size) (hql : q.ss.length ≤ 1000000) (hl : ps.length ≤ 1000000) (hf : from_ ≤ ps.length) :
    Calls Tryz.prog 77 #[.slice a ps.length cp, .int .i64 from_, .agg (pmCells q).toArray] w fun e w' => ∃ r : Int, e = .returned (.int .i64 r) ∧ Below w.heap.size w w' ∧ ((r = -1) ∨ ∃ (j : Nat) (p : Pm), r = j ∧ ps[j]? = some p ∧ p.ss = q.ss) := by
  have hrowH := hid hrow
  have hqH := hid hq
  clear hrow hq
  obtain ⟨qlb, qlo, qlc, qss, qx, qy, qat, qpg, qtv⟩ := q
  simp only [pmCells] at *
  obtain ⟨WX, hWX⟩ : ∃ WX, WX = w.alloc (.cells #[.slice (some ⟨qlb, qlo, none⟩) qss.length qlc, .int .u64 qx, .int .u64 qy, .int .i64 qat, .string qpg, qtv] 101) := ⟨_, rfl⟩
  have hbX : Below w.heap.size w WX := by rw [hWX]; exact (Below.refl _ _).alloc (Nat.le_refl _) _
  have hX0 : WX.heap[w.heap.size]? = some (.cells #[.slice (some ⟨qlb, qlo, none⟩) qss.length qlc, .int .u64 qx, .int .u64 qy, .int .i64 qat, .string qpg, qtv] 101 (0, 0)) := by rw [hWX]; exact alloc_new _ _
  have hzX : w.heap.size < WX.heap.size := by rw [hWX]; simp
  have hWXH := hid hWX
  have hbXH := hid hbX
  have hX0H := hid hX0
  clear hWX hbX hX0
  go_enter Tryz.func77, Tryz.ntmps77
  go_wp2
  rw [← hWXH.out]
  go_loopw [7, 8, 11] (fun _ _ i wr => ∃ k : Nat, k ≤ ps.length ∧ i = .int .i64 k ∧ Hid (Below WX.heap.size WX wr)) (fun _ _ i _ => ps.length - (intOf i).toNat)
  case atStart => exact ⟨0, Nat.zero_le _, rfl, hid (Below.refl _ _)⟩
  case round =>
    obtain ⟨k, hk, rfl, hB⟩ := hrel
    by_cases hlt : k < ps.length
    · obtain ⟨m, hm⟩ : ∃ m : Nat, (from_ + k) % ps.length = m := ⟨_, rfl⟩
      have hml : m < ps.length := by rw [← hm]; exact Nat.mod_lt _ (by omega)
      obtain ⟨p, hp⟩ : ∃ p, ps[m]? = some p := ⟨ps[m], List.getElem?_eq_getElem hml⟩
      have hbw : Below w.heap.size w wr := hbXH.out.trans (hB.out.mono (by omega))
      obtain ⟨g, hga, hg, hc, hlb, hrs, hpl⟩ := hrowH.out m p hp
      obtain ⟨plb, plo, plc, pss, px, py, pat, ppg, ptv⟩ := p
      simp only [pmCells] at hc hlb hrs hpl
      subst hga
      have hI0 : (0 : Int) ≤ (m : Int) := by omega
      have hI1 : (m : Int) < (ps.length : Int) := by omega
      have hwrap : IntKind.i64.wrap ((from_ : Int) + (k : Int)) = (from_ : Int) + (k : Int) := by rw [IntKind.wrap_i64]; omega
      have hne0 : ¬ (ps.length : Int) = 0 := by omega
      have hrem : ((from_ : Int) + (k : Int)).tmod (ps.length : Int) = (m : Int) := by
        rw [Int.tmod_eq_emod_of_nonneg (by omega), ← hm, Int.natCast_emod, Int.natCast_add]
      haveI hNE : Nonempty (Bk wr) := ⟨⟨wr, Below.refl _ _⟩⟩
      have hgr : g < wr.heap.size := Nat.lt_of_lt_of_le hg hbw.size
      have hXr : w.heap.size < wr.heap.size := Nat.lt_of_lt_of_le hzX hB.out.size
      have hwrX := (hB.out.block w.heap.size hzX).trans hX0H.out
      have C0 : ∀ kk : Bk wr, kk.w.cell? ⟨g, m * 6, none⟩ = some (.slice (some ⟨plb, plo, none⟩) pss.length plc) := fun kk => (kk.h.cell (p := ⟨g, m * 6, none⟩) hgr).trans ((hbw.cell (p := ⟨g, m * 6, none⟩) hg).trans (hc 0 _ rfl))
      have C1 : ∀ kk : Bk wr, kk.w.cell? ⟨g, m * 6 + 1, none⟩ = some (.int .u64 px) := fun kk => (kk.h.cell (p := ⟨g, m * 6 + 1, none⟩) hgr).trans ((hbw.cell (p := ⟨g, m * 6 + 1, none⟩) hg).trans (hc 1 _ rfl))
      have C2 : ∀ kk : Bk wr, kk.w.cell? ⟨g, m * 6 + 1 + 1, none⟩ = some (.int .u64 py) := fun kk => (kk.h.cell (p := ⟨g, m * 6 + 1 + 1, none⟩) hgr).trans ((hbw.cell (p := ⟨g, m * 6 + 1 + 1, none⟩) hg).trans (hc 2 _ rfl))
      have D0 : ∀ kk : Bk wr, kk.w.cell? ⟨w.heap.size, 0, none⟩ = some (.slice (some ⟨qlb, qlo, none⟩) qss.length qlc) := fun kk => (kk.h.cell (p := ⟨w.heap.size, 0, none⟩) hXr).trans (cell_blk hwrX 0 _ rfl)
      have D1 : ∀ kk : Bk wr, kk.w.cell? ⟨w.heap.size, 1, none⟩ = some (.int .u64 qx) := fun kk => (kk.h.cell (p := ⟨w.heap.size, 1, none⟩) hXr).trans (cell_blk hwrX 1 _ rfl)
      have D2 : ∀ kk : Bk wr, kk.w.cell? ⟨w.heap.size, 2, none⟩ = some (.int .u64 qy) := fun kk => (kk.h.cell (p := ⟨w.heap.size, 2, none⟩) hXr).trans (cell_blk hwrX 2 _ rfl)
      have hEq : Hid (∀ kk : Bk wr, Calls Tryz.prog 104 #[.slice (some ⟨plb, plo, none⟩) pss.length plc, .slice (some ⟨qlb, qlo, none⟩) qss.length qlc] kk.w fun e w' => e = .returned (.bool (decide (pss = qss))) ∧ Below wr.heap.size wr w') := hid (fun kk => by
        have hbk := hbw.trans (kk.h.mono hbw.size)
        have h1 := hrs.below hbk hlb
        have h2 := hqH.out.below hbk hqb
        have hget : ∀ (b o : Nat) (xs : List ByteArray), RowS kk.w b o xs → ∀ j, j < xs.length → kk.w.cell? ⟨b, o + j, none⟩ = some (.string (xs.getD j ByteArray.empty)) := fun b o xs h j hj => by
          have e : xs[j]? = some (xs.getD j ByteArray.empty) := by rw [List.getD_eq_getElem?_getD, List.getElem?_eq_getElem hj]; rfl
          exact h.1 j _ e
        have := Tryz.slices_Equal_string plb plo pss.length plc qlb qlo qss.length qlc pss qss kk.w (Nat.le_refl _) (Nat.le_refl _) (by omega) (by omega) (hget _ _ _ h1) (hget _ _ _ h2)
        refine this.mono ?_
        rintro e w' ⟨rfl, n, rfl⟩
        exact ⟨by rw [List.take_length, List.take_length], below_drewN kk.h _⟩)
      have hpH := hid hp
      have hbwr : Hid (∀ kk : Bk wr, Below WX.heap.size WX kk.w ∧ Below w.heap.size w kk.w) := hid (fun kk => ⟨hB.out.trans (kk.h.mono hB.out.size), hbw.trans (kk.h.mono hbw.size)⟩)
      clear hc hwrX hm hp hbw hrs
      by_cases hpr : px = qx ∧ py = qy
      · obtain ⟨rfl, rfl⟩ := hpr
        have hgd := Tryz.guardPrint
        have hpe : ∀ kk : Bk wr, (Op.equalIn 10000 99 (.agg #[.int .u64 px, .int .u64 py]) (.agg #[.int .u64 px, .int .u64 py])).run Tryz.prog kk.w = .ok true kk.w := fun kk => by rw [print_eql]; simp
        by_cases hll : pss = qss
        · have hd : decide (pss = qss) = true := decide_eq_true hll
          rw [hd] at hEq
          have hllH := hid hll
          clear hll hd
          go_wp2_with fail
          refine wp_region_behind (by kernel_rfl) (by kernel_rfl) ?_
          repeat (go_big_quiet_step ((rename_i kk; exact (hEq.out kk).mono (fun e w' h => ⟨h.1, ⟨w', h.2⟩, rfl⟩))))
          refine wpQuiet_nil ?_
          intro _ hw'
          obtain ⟨kq, hw''⟩ := hw'
          subst hw''
          go_wp2
          go_ret
          exact ⟨(m : Int), rfl, (hbwr.out kq).2, .inr ⟨m, _, rfl, hpH.out, hllH.out⟩⟩
        · have hd : decide (pss = qss) = false := decide_eq_false hll
          rw [hd] at hEq
          clear hll hd
          go_wp2_with fail
          refine wp_region_behind (by kernel_rfl) (by kernel_rfl) ?_
          repeat (go_big_quiet_step ((rename_i kk; exact (hEq.out kk).mono (fun e w' h => ⟨h.1, ⟨w', h.2⟩, rfl⟩))))
          refine wpQuiet_nil ?_
          intro _ hw'
          obtain ⟨kq, hw''⟩ := hw'
          subst hw''
          go_wp2
          go_roundw
          case rel => exact ⟨k + 1, by omega, by go_num, hid (hbwr.out kq).1⟩
          case measure => simp [intOf]; omega
      · have hpb : ((px == qx) && (py == qy)) = false := by
          rw [Bool.and_eq_false_iff]
          by_cases hx : px = qx
          · exact .inr (by rw [beq_eq_false_iff_ne]; exact fun e => hpr ⟨hx, e⟩)
          · exact .inl (by rw [beq_eq_false_iff_ne]; exact hx)
        have hgd := Tryz.guardPrint
        have hpe : ∀ kk : Bk wr, (Op.equalIn 10000 99 (.agg #[.int .u64 px, .int .u64 py]) (.agg #[.int .u64 qx, .int .u64 qy])).run Tryz.prog kk.w = .ok false kk.w := fun kk => by rw [print_eql, hpb]
        clear hEq hpr hpb
        go_wp2_with fail
        refine wp_region_behind (by kernel_rfl) (by kernel_rfl) ?_
        repeat (go_big_quiet_step (fail))
        refine wpQuiet_nil ?_
        intro _ hw'
        obtain ⟨kq, hw''⟩ := hw'
        subst hw''
        go_wp2
        go_roundw
        case rel => exact ⟨k + 1, by omega, by go_num, hid (hbwr.out kq).1⟩
        case measure => simp [intOf]; omega
    · have hI1 : ¬ (k : Int) < (ps.length : Int) := by omega
      have hbw : Hid (Below w.heap.size w wr) := hid (hbXH.out.trans (hB.out.mono (by omega)))
      go_wp2
      go_ret
      exact ⟨-1, rfl, hbw.out, .inl rfl⟩
end Go.Proofs.YtlojgpkajkedeaaGreatDoor
/- A piece is written. -/
namespace Go.Proofs.YtlojgpkajkedeaaGreatDoor
open Go.RowKit

theorem set_grown (w : World) (a : Addr) (u : Value) : w.grownBy (w.setCell a u) (some a.block) :=
  ⟨rfl, rfl, rfl, by simp [World.setCell], fun k _ hne => Below.heap_setCell _ _ _ _ (fun e => hne (by rw [e]))⟩
theorem OwnsT.set {B : Nat} {a : Option Addr} {cp : Nat} {l : List Tl} {w : World} (h : OwnsT B a cp l w) (p : Addr) (u : Value) (hp : p.block < B) : OwnsT B a cp l (w.setCell p u) :=
  World.ownsRow.kept h (set_grown w p u) (by
    cases h' : (Value.slice a l.length cp).ownBlock with
    | none => exact .inl rfl
    | some g =>
      refine .inr (fun e => ?_)
      have := (World.ownsRow.lt h g h').1
      injection e with e
      omega)
theorem put_put (z y : Int) (b : S.Blk) : (b.put z).put y = b.put y := by cases b; rfl
theorem blkHt_put (f : Bool) (z : Int) (b : S.Blk) : blkHt contH f (b.put z) = blkHt contH f b := by cases b; simp only [S.Blk.put, blkHt]
mutual
theorem titB_cnt : ∀ (b : S.Blk) (z : Int), 120 * (titB z b).length ≤ pgB b
  | .at_ li k n i t lo kids => by
    intro z
    have := titL_cnt kids (z + li)
    simp only [titB, pgB, List.length_append]
    split
    · simp only [List.length_singleton]; omega
    · simp only [List.length_nil]; omega
theorem titL_cnt : ∀ (l : List S.Blk) (z : Int), 120 * (titL z l).length ≤ pgL l
  | [] => by intro z; simp [titL]
  | b :: r => by
    intro z
    have h1 := titB_cnt b z
    have h2 := titL_cnt r z
    simp only [titL, pgL, List.length_append]; omega
end

set_option maxRecDepth 100000 in
set_option maxHeartbeats 4000000 in
theorem pcwrite_any (pb : Nat) (v0 v1 v2 v3 v4 v5 : Value) (B : S.Blk) (la : Option Addr) (ln lc : Nat) (ka : Option Addr) (kn kc : Nat) (A : Nat → Prop) (w : World) (hp : w.heap[pb]? = some (.cells #[v0, v1, v2, v3, v4, v5] 101 (0, 0))) (hA : ∀ x, A x → x < pb) (hrep : Rep w A (.slice ka kn kc) B.kids) (henv : EnvP pb w) (hfit : fitB B) (hln : lnL B.kids) (hkd : 1 ≤ B.kind ∧ B.kind ≤ 6) (hpg : pgB B ≤ 100000000) :
    Calls Tryz.prog 78 #[.pointer (some ⟨pb, 0, none⟩), .agg #[.int .i64 B.kind, .int .i64 B.line, .slice la ln lc, .int .i64 B.n, .string (S.B B.info), .string (S.B B.text), .bool B.loose, .slice ka kn kc]] w fun e w' => e = .returned (.tuple #[]) ∧ Below pb w w' ∧ ∃ a cp B', w.heap.size ≤ B' ∧ w'.heap[pb]? = some (.cells #[v0, v1, v2, v3, .string (S.B (blkHt contH false B)), .slice a (titB 0 (B.put 0)).length cp] 101 (0, 0)) ∧ OwnsT B' a cp (titB 0 (B.put 0)) w' := by
  have hpl : pb < w.heap.size := by
    rcases Nat.lt_or_ge pb w.heap.size with h | h
    · exact h
    · rw [Array.getElem?_eq_none h] at hp; cases hp
  obtain ⟨o1, ho1⟩ : ∃ o1, o1 = Obj.cells #[.int .i64 B.kind, .int .i64 0, .slice la ln lc, .int .i64 B.n, .string (S.B B.info), .string (S.B B.text), .bool B.loose, .slice ka kn kc] 110 := ⟨_, rfl⟩
  obtain ⟨WY, hWY⟩ : ∃ WY, WY = (w.alloc o1).alloc o1 := ⟨_, rfl⟩
  have hbY : Below w.heap.size w WY := by rw [hWY]; exact ((Below.refl _ _).alloc (Nat.le_refl _) _).alloc (by simp) _
  have hzY : WY.heap.size = w.heap.size + 2 := by rw [hWY]; simp
  have hY1 : WY.heap[w.heap.size + 1]? = some (.cells #[.int .i64 B.kind, .int .i64 0, .slice la ln lc, .int .i64 B.n, .string (S.B B.info), .string (S.B B.text), .bool B.loose, .slice ka kn kc] 110 (0, 0)) := by
    rw [hWY, ho1]
    have := alloc_new (w.alloc o1) (Obj.cells #[.int .i64 B.kind, .int .i64 0, .slice la ln lc, .int .i64 B.n, .string (S.B B.info), .string (S.B B.text), .bool B.loose, .slice ka kn kc] 110)
    rw [ho1] at this
    simpa using this
  have hrep1 : Rep WY (fun x => A x ∨ x = w.heap.size + 1) (.slice (some ⟨w.heap.size + 1, 0, none⟩) 1 1) [B.put 0] := by
    refine .some (w.heap.size + 1) 0 1 [B.put 0] (fun _ => .slice ka kn kc) (.inr rfl) (by simp) ?_ ?_
    · intro i t hi
      have hi0 : i = 0 := by have := (List.getElem?_eq_some_iff.1 hi).1; simp at this; omega
      subst hi0
      simp at hi
      subst hi
      simp only [S.Blk.put_kind, S.Blk.put_line, S.Blk.put_n, S.Blk.put_info, S.Blk.put_text, S.Blk.put_loose]
      exact ⟨cell_blk hY1 0 _ rfl, cell_blk hY1 1 _ rfl, ⟨la, ln, lc, cell_blk hY1 2 _ rfl⟩, cell_blk hY1 3 _ rfl, cell_blk hY1 4 _ rfl, cell_blk hY1 5 _ rfl, cell_blk hY1 6 _ rfl, cell_blk hY1 7 _ rfl⟩
    · intro i t hi
      have hi0 : i = 0 := by have := (List.getElem?_eq_some_iff.1 hi).1; simp at this; omega
      subst hi0
      simp at hi
      subst hi
      rw [S.Blk.put_kids]
      exact hrep.move (fun x hx => .inl hx) (fun x hx => hbY.block x (by have := hA x hx; omega))
  have hfit1 : fitL [B.put 0] := by simp only [fitL]; exact ⟨(fitB_put _ _).2 hfit, trivial⟩
  have hpg1 : pgL [B.put 0] = pgB B := by simp only [pgL, pgB_put]; omega
  have hln1 : lnL [B.put 0] := by simp only [lnL]; exact ⟨lnB_put 0 B (by omega) (by omega) hln, trivial⟩
  have hW := write_any (fun x => A x ∨ x = w.heap.size + 1) (some ⟨w.heap.size + 1, 0, none⟩) 1 1 [B.put 0] WY (fun x hx => by
    rcases hx with hx | hx
    · have := hA x hx; omega
    · omega) hrep1 ((henv.below (hbY.mono (by omega))).mono (by omega)) hfit1 (by omega) (by
    intro b hb
    simp at hb
    subst hb
    rw [S.Blk.put_kind]; exact hkd)
  rw [show blksHt contH false [B.put 0] = blkHt contH false B by simp only [blksHt, List.append_nil, blkHt_put]] at hW
  obtain ⟨pg, hpgE⟩ : ∃ pg, S.B (blkHt contH false B) = pg := ⟨_, rfl⟩
  rw [hpgE] at hW ⊢
  have hWH := hid hW
  have htitE : titL 0 [B.put 0] = titB 0 (B.put 0) := by simp only [titL, List.append_nil]
  have hT : Hid (∀ w1, Below WY.heap.size WY w1 → Calls Tryz.prog 59 #[.slice none 0 0, .slice (some ⟨w.heap.size + 1, 0, none⟩) 1 1, .int .i64 0] (w1.setCell ⟨pb, 4, none⟩ (.string pg)) fun e w3 => ∃ a cp n, e = .returned (.slice a n cp) ∧ (w3.heap[pb]? = some (.cells #[v0, v1, v2, v3, .string pg, v5] 101 (0, 0))) ∧ Hid (n = (titB 0 (B.put 0)).length ∧ Below pb w w3 ∧ ∃ B', w.heap.size ≤ B' ∧ OwnsT B' a cp (titB 0 (B.put 0)) w3)) := hid (fun w1 h1 => by
    obtain ⟨W2, hW2⟩ : ∃ W2, W2 = w1.setCell ⟨pb, 4, none⟩ (.string pg) := ⟨_, rfl⟩
    rw [← hW2]
    have hz2 : W2.heap.size = w1.heap.size := by rw [hW2]; simp [World.setCell]
    have hz1 := h1.size
    have hb2 : Below pb w W2 := by
      have k1 : Below pb w WY := hbY.mono (by omega)
      have k2 : Below pb WY w1 := h1.mono (by omega)
      rw [hW2]
      exact (k1.trans k2).setCell (p := ⟨pb, 4, none⟩) (Nat.le_refl pb) _
    have hblk : ∀ x, x < WY.heap.size → x ≠ pb → W2.heap[x]? = WY.heap[x]? := fun x hx hne => by
      rw [hW2, Below.heap_setCell _ _ _ _ hne]; exact h1.block x hx
    have hpb2 : W2.heap[pb]? = some (.cells #[v0, v1, v2, v3, .string pg, v5] 101 (0, 0)) := by
      rw [hW2]
      exact set_blk ((h1.block pb (by omega)).trans ((hbY.block pb hpl).trans hp)) 4 _
    have hrep2 : Rep W2 (fun x => A x ∨ x = w.heap.size + 1) (.slice (some ⟨w.heap.size + 1, 0, none⟩) 1 1) [B.put 0] := hrep1.move (fun x hx => hx) (fun x hx => by
      rcases hx with hx | hx
      · have := hA x hx; exact hblk x (by omega) (by omega)
      · exact hblk x (by omega) (by omega))
    have := apTit_any (pgL [B.put 0]) [B.put 0] (Nat.le_refl _) W2.heap.size (fun x => A x ∨ x = w.heap.size + 1) W2 (some ⟨w.heap.size + 1, 0, none⟩) 1 1 none 0 [] 0 W2 (fun x hx => by
      rcases hx with hx | hx
      · have := hA x hx; omega
      · omega) hrep2 ((henv.below hb2).mono (by omega)) (Below.refl _ _) (Nat.le_refl _) (World.ownsRow_nil _ _ _ _) hfit1 hln1 (by omega) (by omega) (by
      rw [List.nil_append, htitE]
      have := titB_cnt (B.put 0) 0
      rw [pgB_put] at this
      omega)
    rw [List.nil_append, htitE] at this
    refine this.mono ?_
    rintro e w3 ⟨a, cp, rfl, g1, g2, g3⟩
    have hb3 : Below W2.heap.size W2 w3 := Below.grown (Below.refl _ _) g2 (Nat.le_refl _) (fun k hk => by simp [Value.ownBlock] at hk)
    exact ⟨a, cp, _, rfl, (hb3.block pb (by omega)).trans hpb2, hid ⟨rfl, hb2.trans (hb3.mono (by have := hb2.size; omega)), W2.heap.size, by omega, g1⟩⟩)
  have hpY : Hid (∀ w1, Below WY.heap.size WY w1 → w1.heap[pb]? = some (.cells #[v0, v1, v2, v3, v4, v5] 101 (0, 0))) := hid (fun w1 h1 => (h1.block pb (by omega)).trans ((hbY.block pb hpl).trans hp))
  have hWYH : Hid (WY = (w.alloc o1).alloc o1) := hid hWY
  have ho1H := hid ho1
  clear hW hp hA hrep henv hfit hln hkd hpg hrep1 hfit1 hpg1 hln1 hY1 hWY hpgE htitE hbY ho1 hzY
  go_enter Tryz.func78, Tryz.ntmps78
  go_wp2_with fail
  rw [← ho1H.out, ← hWYH.out]
  refine hWH.out.mono ?_
  rintro e w1 ⟨rfl, h1⟩
  have hTT := hid (hT.out w1 h1)
  have q := hpY.out w1 h1
  have f4 : w1.frozen? ⟨pb, 4, none⟩ = false := free_blk q 4
  have c4 : w1.cell? ⟨pb, 4, none⟩ = some v4 := cell_blk q 4 _ rfl
  clear h1 q
  go_wp2_with fail
  refine hTT.out.mono ?_
  rintro e w3 ⟨a, cp, n, rfl, h3, h4⟩
  have f5 : w3.frozen? ⟨pb, 5, none⟩ = false := free_blk h3 5
  have c5 : w3.cell? ⟨pb, 5, none⟩ = some v5 := cell_blk h3 5 _ rfl
  have h3H := hid h3
  clear h3
  go_wp2
  go_end0
  obtain ⟨rfl, g1, B', g2, g3⟩ := h4.out
  exact ⟨rfl, g1.setCell (p := ⟨pb, 5, none⟩) (Nat.le_refl pb) _, a, cp, B', g2, set_blk h3H.out 5 _, g3.set _ _ (by show pb < B'; omega)⟩
end Go.Proofs.YtlojgpkajkedeaaGreatDoor
