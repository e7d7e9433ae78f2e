import Derived.Test.YtlojgpkajkedeaaGreatDoorPB
import Derived.Test.YtlojgpkajkedeaaGreatDoorPL
import Derived.Test.YtlojgpkajkedeaaGreatDoorE29
import Derived.Deep.LoopGhost
/- Parts: their plain text. -/
namespace Go.Proofs.YtlojgpkajkedeaaGreatDoor
open Go.RowKit

theorem bldF_heap {T : TypeId} {B b : Nat} {bs : List Value} {w : World} (h : Lib.IsBuilderF T 5 B b bs w) : ∃ cs, w.heap[b]? = some (.cells cs T (0, 0)) := by
  rcases h with ⟨_, v, hb, _⟩ | ⟨_, v, hb, _⟩
  · exact ⟨_, hb⟩
  · exact ⟨_, hb⟩
theorem kept_blk {w w' : World} {b x T T2 : Nat} {cs cs2 : Array Value} (hk : Lib.OthersKept 5 (some b) w w') (hb : w.heap[b]? = some (.cells cs T (0, 0))) (hx : w.heap[x]? = some (.cells cs2 T2 (0, 0))) (hT : T2 ≠ T) (h5 : T2 ≠ 5) : w'.heap[x]? = some (.cells cs2 T2 (0, 0)) := by
  refine hk x _ hx (fun e => ?_) (fun c fz e => ?_)
  · have : x = b := by simpa using e
    subst this
    rw [hx] at hb
    simp only [Option.some.injEq, Obj.cells.injEq] at hb
    exact hT hb.2.1
  · simp only [Obj.cells.injEq] at e
    exact h5 e.2.1
theorem KRep.kept {w w' : World} {A : Nat → Prop} {a : Option Addr} {ps : List Pt} (h : KRep w A a ps) {b T : Nat} {cs : Array Value} (hk : Lib.OthersKept 5 (some b) w w') (hb : w.heap[b]? = some (.cells cs T (0, 0))) (hT : 179 ≠ T) : KRep w' A a ps := by
  induction h with
  | nil => exact .nil
  | cons e ah be r ha hm hkk hr ih1 ih2 => exact .cons e ah be r ha (kept_blk hk hb hm hT (by decide)) ih1 ih2
theorem KRep.alloc {w : World} {A : Nat → Prop} {a : Option Addr} {ps : List Pt} (h : KRep w A a ps) (o : Obj) : KRep (w.alloc o) A a ps := by
  induction h with
  | nil => exact .nil
  | cons e ah be r ha hm hkk hr ih1 ih2 => exact .cons e ah be r ha ((Below.heap_alloc w o e.m (Array.getElem?_eq_some_iff.1 hm).1).trans hm) ih1 ih2
theorem bldF_alloc {T : TypeId} {B b : Nat} {bs : List Value} {w : World} (h : Lib.IsBuilderF T 5 B b bs w) (o : Obj) : Lib.IsBuilderF T 5 B b bs (w.alloc o) := by
  rcases h with h | h
  · exact .inl (h.alloc o)
  · exact .inr (h.alloc o)
theorem Wrote.allocd {T : TypeId} {B b : Nat} {l : List UInt8} {w w1 : World} (h : Wrote T B b l w w1) (hB : B ≤ w1.heap.size) (o : Obj) : Wrote T B b l w (w1.alloc o) := ⟨bldF_alloc h.1 o, h.2.1.alloc hB o, h.2.2.alloc o⟩

/-- Parts are written plain, behind what a builder holds. -/
def PlainOK (ps : List Pt) : Prop := ∀ (B b : Nat) (A : Nat → Prop) (kf kl : Option Addr) (l : List UInt8) (w : World), Lib.IsBuilderF 104 5 B b (Lib.byteCells l) w → B ≤ w.heap.size → l.length + wgL ps ≤ 1000000000 → KRep w A kf ps →
  Calls Tryz.prog 105 #[.pointer (some ⟨b, 0, none⟩), .agg #[.pointer kf, .pointer kl]] w fun e w' => e = .returned (.tuple #[]) ∧ Wrote 104 B b (l ++ ptsPl ps) w w'

theorem bwrite (B b : Nat) (l : List UInt8) (s : ByteArray) (w : World) (h : Lib.IsBuilderF 104 5 B b (Lib.byteCells l) w) (hlen : l.length + s.size ≤ 1000000000) (hBw : B ≤ w.heap.size) :
    Calls Tryz.prog 60 #[.pointer (some ⟨b, 0, none⟩), .string s] w fun e w' => e = .returned (.tuple #[.int .i64 s.size, .nilIface]) ∧ Wrote 104 B b (l ++ s.data.toList) w w' := by
  refine (Tryz.writeStringB B b _ s w h (by rw [Lib.byteCells_length]; omega) hBw).mono ?_
  rintro e w' ⟨h1, h2, h3, h4⟩
  rw [Lib.strCells_eq, ← Lib.byteCells_append] at h2
  exact ⟨h1, .inr h2, h3, h4⟩
theorem bwriteB (B b : Nat) (l : List UInt8) (c : UInt8) (w : World) (h : Lib.IsBuilderF 104 5 B b (Lib.byteCells l) w) (hlen : l.length + 1 ≤ 1000000000) (hBw : B ≤ w.heap.size) :
    Calls Tryz.prog 151 #[.pointer (some ⟨b, 0, none⟩), .int .u8 (c.toNat : Int)] w fun e w' => e = .returned .nilIface ∧ Wrote 104 B b (l ++ [c]) w w' := by
  refine (Tryz.writeByteB B b _ (c.toNat : Int) w h (by rw [Lib.byteCells_length]; omega) hBw).mono ?_
  rintro e w' ⟨h1, h2, h3, h4⟩
  rw [show (Lib.byteCells l ++ [.int .u8 (c.toNat : Int)]) = Lib.byteCells (l ++ [c]) by rw [Lib.byteCells_append]; rfl] at h2
  exact ⟨h1, .inr h2, h3, h4⟩

set_option maxRecDepth 100000 in
set_option maxHeartbeats 8000000 in
theorem plain_any (N : Nat) : ∀ (ps : List Pt), cntL ps ≤ N → PlainOK ps := by
  induction N using Nat.strongRecOn with
  | _ N ih =>
  intro ps hN B b A kf kl l w hbl hB hl hk
  have hF := hid (first_any w.heap.size 0 (.pointer kf) (w.alloc (.cells #[.pointer kf, .pointer kl] 135)) (cell_blk (alloc_new _ _) 0 _ rfl) ⟨_, rfl⟩)
  have hstart : Hid (Wrote 104 B b l w (w.alloc (.cells #[.pointer kf, .pointer kl] 135)) ∧ KRep (w.alloc (.cells #[.pointer kf, .pointer kl] 135)) A kf ps) := hid ⟨(Wrote.refl hbl).allocd hB _, hk.alloc _⟩
  have ihH := hid ih
  have hNH := hid hN
  have hlH := hid hl
  clear hbl hk ih hN hl
  go_enter Tryz.func105, Tryz.ntmps105
  go_wp2_with fail
  refine hF.out.mono ?_
  rintro e w' ⟨rfl, rfl⟩
  go_wp2
  go_loopg [4, 5] ps.length (fun k s4 _ wr => ∃ (dn rs : List Pt) (v : Option Addr), s4 = .pointer v ∧ Hid (ps = dn ++ rs ∧ rs.length = k ∧ Wrote 104 B b (l ++ ptsPl dn) w wr ∧ KRep wr A v rs))
  case atStart =>
    refine ⟨[], ps, kf, rfl, hid ⟨rfl, rfl, ?_, hstart.out.2⟩⟩
    simpa [ptsPl] using hstart.out.1
  case round =>
    obtain ⟨dn, rs, v, rfl, hrel'⟩ := hrel
    obtain ⟨hps, hrk, hW, hkr⟩ := hrel'.out
    clear hrel'
    have hBr : B ≤ wr.heap.size := Nat.le_trans hB hW.2.1.size
    cases hkr with
    | nil =>
      have hfin : Hid (Wrote 104 B b (l ++ ptsPl ps) w wr) := hid (by
        rw [List.append_nil] at hps; subst hps
        exact hW)
      clear hps hrk hW
      go_wp2
      go_end0
      exact ⟨rfl, hfin.out⟩
    | cons e ah be r ha hb hke hr =>
      obtain ⟨kd, hkd⟩ : ∃ x, e.p.kind = x := ⟨_, rfl⟩
      obtain ⟨inf, hinf⟩ : ∃ x, S.B e.p.info = x := ⟨_, rfl⟩
      obtain ⟨tx, htx⟩ : ∃ x, S.B e.p.text = x := ⟨_, rfl⟩
      obtain ⟨m, hm⟩ : ∃ m, e.m = m := ⟨_, rfl⟩
      obtain ⟨kf1, hkf1⟩ : ∃ x, e.kf = x := ⟨_, rfl⟩
      obtain ⟨kl1, hkl1⟩ : ∃ x, e.kl = x := ⟨_, rfl⟩
      obtain ⟨rz, hrz⟩ : ∃ x : Int, (e.p.rs : Int) = x := ⟨_, rfl⟩
      obtain ⟨ro, hro⟩ : ∃ x, e.p.ro = x := ⟨_, rfl⟩
      obtain ⟨rc, hrc⟩ : ∃ x, e.p.rc = x := ⟨_, rfl⟩
      have hcs : memCells e ah be = [.int .i64 kd, .string inf, .string tx, .pointer kf1, .pointer kl1, .int .i64 rz, .bool ro, .bool rc, .pointer ah, .pointer be] := by
        unfold memCells; rw [hkd, hinf, htx, hkf1, hkl1, hrz, hro, hrc]
      rw [hcs, hm] at hb
      have p0 : wr.cell? ⟨m, 0, none⟩ = some (.int .i64 kd) := cell_blk hb 0 _ rfl
      have p1 : wr.cell? ⟨m, 1, none⟩ = some (.string inf) := cell_blk hb 1 _ rfl
      have p2 : wr.cell? ⟨m, 2, none⟩ = some (.string tx) := cell_blk hb 2 _ rfl
      have p3 : wr.cell? ⟨m, 3, none⟩ = some (.pointer kf1) := cell_blk hb 3 _ rfl
      have p4 : wr.cell? ⟨m, 4, none⟩ = some (.pointer kl1) := cell_blk hb 4 _ rfl
      have p5 : wr.cell? ⟨m, 5, none⟩ = some (.int .i64 rz) := cell_blk hb 5 _ rfl
      have p6 : wr.cell? ⟨m, 6, none⟩ = some (.bool ro) := cell_blk hb 6 _ rfl
      have p7 : wr.cell? ⟨m, 7, none⟩ = some (.bool rc) := cell_blk hb 7 _ rfl
      have hv : (some e.ad : Option Addr) = some ⟨m, 0, none⟩ := by rw [Mem.ad, hm]
      obtain ⟨X, hX⟩ : ∃ X, X = Obj.cells #[.int .i64 kd, .string inf, .string tx, .pointer kf1, .pointer kl1, .int .i64 rz, .bool ro, .bool rc] 177 := ⟨_, rfl⟩
      have hWX := hW.allocd hBr X
      have hwp : wgL ps = wgL dn + wgP e.p + wgL r := by rw [hps, wgL_append, wgL_cons]; omega
      have hdl := ptsPl_le dn
      have hwe := wgP_eq e.p
      have hl0 := hlH.out
      have hcK : cntL e.p.kids < N := by
        have := hNH.out
        rw [hps, cntL_append, cntL_cons, cntP_eq] at this
        omega
      -- what each way writes, and what follows
      have hstep : Hid (∀ w2, Wrote 104 B b ((l ++ ptsPl dn) ++ ptPl e.p) (wr.alloc X) w2 → w2.cell? ⟨m, 9, none⟩ = some (.pointer be) ∧ Hid (ps = (dn ++ [e.p]) ++ r ∧ r.length = r.length ∧ Wrote 104 B b (l ++ ptsPl (dn ++ [e.p])) w w2 ∧ KRep w2 A be r)) := hid (fun w2 h2 => by
        obtain ⟨cs, hbb⟩ := bldF_heap hWX.1
        have hbX := (Below.heap_alloc wr X m (Array.getElem?_eq_some_iff.1 hb).1).trans hb
        refine ⟨cell_blk (kept_blk h2.2.2 hbb hbX (by decide) (by decide)) 9 _ rfl, hid ⟨by rw [hps]; simp, rfl, ?_, (hr.alloc X).kept h2.2.2 hbb (by decide)⟩⟩
        have := hWX.trans h2
        rw [ptsPl_append, ← List.append_assoc]
        simpa [ptsPl] using this)
      have hpl : Hid (ptPl e.p = if kd = 8 ∨ kd = 11 then e.p.text else if kd = 9 ∨ kd = 10 then [32] else ptsPl e.p.kids) := hid (by rw [ptPl_eq, hkd])
      have hT : Hid (Calls Tryz.prog 60 #[.pointer (some ⟨b, 0, none⟩), .string tx] (wr.alloc X) fun e' w' => e' = .returned (.tuple #[.int .i64 tx.size, .nilIface]) ∧ Wrote 104 B b ((l ++ ptsPl dn) ++ e.p.text) (wr.alloc X) w') := hid (by
        have := bwrite B b (l ++ ptsPl dn) tx (wr.alloc X) hWX.1 (by rw [← htx, S.size_B, List.length_append]; omega) (by simp; omega)
        rw [← htx, S.data_B] at this
        rw [← htx]
        exact this)
      have hS : Hid (Calls Tryz.prog 151 #[.pointer (some ⟨b, 0, none⟩), .int .u8 32] (wr.alloc X) fun e' w' => e' = .returned .nilIface ∧ Wrote 104 B b ((l ++ ptsPl dn) ++ [32]) (wr.alloc X) w') := hid (bwriteB B b (l ++ ptsPl dn) 32 (wr.alloc X) hWX.1 (by rw [List.length_append]; omega) (by simp; omega))
      have hK : Hid (Calls Tryz.prog 105 #[.pointer (some ⟨b, 0, none⟩), .agg #[.pointer kf1, .pointer kl1]] (wr.alloc X) fun e' w' => e' = .returned (.tuple #[]) ∧ Wrote 104 B b ((l ++ ptsPl dn) ++ ptsPl e.p.kids) (wr.alloc X) w') := hid (ihH.out (cntL e.p.kids) hcK e.p.kids (Nat.le_refl _) B b A kf1 kl1 (l ++ ptsPl dn) (wr.alloc X) hWX.1 (by simp; omega) (by rw [List.length_append]; omega) (by rw [← hkf1]; exact hke.alloc X))
      have hrkH := hid hrk
      have hXH := hid hX
      clear hps hW hb hke hr hcs hkd hinf htx hkl1 hrz hro hrc hkf1 hWX hwp hdl hwe hl0 hrk hX hm
      rw [hv]
      clear hv
      rcases Classical.em (kd = 8) with h8 | h8
      · subst h8
        have hpl' : Hid (ptPl e.p = e.p.text) := hid (by rw [hpl.out, if_pos (.inl rfl)])
        go_wp2_with fail
        rw [← hXH.out]
        refine hT.out.mono ?_
        rintro e2 w2 ⟨rfl, h2⟩
        obtain ⟨hc9, hr2⟩ := hstep.out w2 (by rw [hpl'.out]; exact h2)
        have hBh := hid (behind_any m (.pointer be) w2 hc9 ⟨_, rfl⟩)
        clear h2 hc9
        go_wp2_with fail
        refine hBh.out.mono ?_
        rintro e3 w3 ⟨rfl, rfl⟩
        go_wp2
        go_roundg r.length
        case rel => exact ⟨dn ++ [e.p], r, be, rfl, hid ⟨hr2.out.1, rfl, hr2.out.2.2⟩⟩
        case measure =>
          have := hrkH.out
          simp at this; omega
      rcases Classical.em (kd = 11) with h11 | h11
      · subst h11
        have hpl' : Hid (ptPl e.p = e.p.text) := hid (by rw [hpl.out, if_pos (.inr rfl)])
        go_wp2_with fail
        rw [← hXH.out]
        refine hT.out.mono ?_
        rintro e2 w2 ⟨rfl, h2⟩
        obtain ⟨hc9, hr2⟩ := hstep.out w2 (by rw [hpl'.out]; exact h2)
        have hBh := hid (behind_any m (.pointer be) w2 hc9 ⟨_, rfl⟩)
        clear h2 hc9
        go_wp2_with fail
        refine hBh.out.mono ?_
        rintro e3 w3 ⟨rfl, rfl⟩
        go_wp2
        go_roundg r.length
        case rel => exact ⟨dn ++ [e.p], r, be, rfl, hid ⟨hr2.out.1, rfl, hr2.out.2.2⟩⟩
        case measure =>
          have := hrkH.out
          simp at this; omega
      rcases Classical.em (kd = 9) with h9 | h9
      · subst h9
        have hpl' : Hid (ptPl e.p = [32]) := hid (by rw [hpl.out, if_neg (by decide), if_pos (.inl rfl)])
        go_wp2_with fail
        rw [← hXH.out]
        refine hS.out.mono ?_
        rintro e2 w2 ⟨rfl, h2⟩
        obtain ⟨hc9, hr2⟩ := hstep.out w2 (by rw [hpl'.out]; exact h2)
        have hBh := hid (behind_any m (.pointer be) w2 hc9 ⟨_, rfl⟩)
        clear h2 hc9
        go_wp2_with fail
        refine hBh.out.mono ?_
        rintro e3 w3 ⟨rfl, rfl⟩
        go_wp2
        go_roundg r.length
        case rel => exact ⟨dn ++ [e.p], r, be, rfl, hid ⟨hr2.out.1, rfl, hr2.out.2.2⟩⟩
        case measure =>
          have := hrkH.out
          simp at this; omega
      rcases Classical.em (kd = 10) with h10 | h10
      · subst h10
        have hpl' : Hid (ptPl e.p = [32]) := hid (by rw [hpl.out, if_neg (by decide), if_pos (.inr rfl)])
        go_wp2_with fail
        rw [← hXH.out]
        refine hS.out.mono ?_
        rintro e2 w2 ⟨rfl, h2⟩
        obtain ⟨hc9, hr2⟩ := hstep.out w2 (by rw [hpl'.out]; exact h2)
        have hBh := hid (behind_any m (.pointer be) w2 hc9 ⟨_, rfl⟩)
        clear h2 hc9
        go_wp2_with fail
        refine hBh.out.mono ?_
        rintro e3 w3 ⟨rfl, rfl⟩
        go_wp2
        go_roundg r.length
        case rel => exact ⟨dn ++ [e.p], r, be, rfl, hid ⟨hr2.out.1, rfl, hr2.out.2.2⟩⟩
        case measure =>
          have := hrkH.out
          simp at this; omega
      · have hpl' : Hid (ptPl e.p = ptsPl e.p.kids) := hid (by rw [hpl.out, if_neg (fun h => h.elim h8 h11), if_neg (fun h => h.elim h9 h10)])
        have e8 : (kd == 8) = false := by rw [beq_eq_false_iff_ne]; exact h8
        have e11 : (kd == 11) = false := by rw [beq_eq_false_iff_ne]; exact h11
        have e9 : (kd == 9) = false := by rw [beq_eq_false_iff_ne]; exact h9
        have e10 : (kd == 10) = false := by rw [beq_eq_false_iff_ne]; exact h10
        clear h8 h11 h9 h10
        go_wp2_with fail
        rw [← hXH.out]
        refine hK.out.mono ?_
        rintro e2 w2 ⟨rfl, h2⟩
        obtain ⟨hc9, hr2⟩ := hstep.out w2 (by rw [hpl'.out]; exact h2)
        have hBh := hid (behind_any m (.pointer be) w2 hc9 ⟨_, rfl⟩)
        clear h2 hc9
        go_wp2_with fail
        refine hBh.out.mono ?_
        rintro e3 w3 ⟨rfl, rfl⟩
        go_wp2
        go_roundg r.length
        case rel => exact ⟨dn ++ [e.p], r, be, rfl, hid ⟨hr2.out.1, rfl, hr2.out.2.2⟩⟩
        case measure =>
          have := hrkH.out
          simp at this; omega

set_option maxRecDepth 100000 in
set_option maxHeartbeats 4000000 in
theorem plainOf_any (ps : List Pt) (A : Nat → Prop) (kf kl : Option Addr) (w : World) (hl : wgL ps ≤ 1000000000) (hk : KRep w A kf ps) :
    Calls Tryz.prog 79 #[.agg #[.pointer kf, .pointer kl]] w fun e w' => e = .returned (.string (S.B (ptsPl ps))) ∧ Below w.heap.size w w' := by
  obtain ⟨w2, hw2⟩ : ∃ w2, w2 = (w.alloc (.cells #[.pointer kf, .pointer kl] 135)).alloc (.cells #[.pointer none, .slice none 0 0] 104) := ⟨_, rfl⟩
  have hs1 : (w.alloc (.cells #[.pointer kf, .pointer kl] 135)).heap.size = w.heap.size + 1 := by simp
  have hbl := fresh_builder (w.alloc (.cells #[.pointer kf, .pointer kl] 135))
  rw [← hw2, hs1] at hbl
  have hk2 : KRep w2 A kf ps := by rw [hw2]; exact (hk.alloc _).alloc _
  have hs2 : w2.heap.size = w.heap.size + 2 := by rw [hw2]; simp
  have hbw : Below w.heap.size w w2 := by rw [hw2]; exact ((Below.refl _ _).alloc (Nat.le_refl _) _).alloc (by simp) _
  have hP := hid (plain_any (cntL ps) ps (Nat.le_refl _) (w.heap.size + 1) (w.heap.size + 1) A kf kl [] w2 hbl (by omega) (by simpa using hl) hk2)
  have c0 : w2.cell? ⟨w.heap.size, 0, none⟩ = some (.pointer kf) := by
    have : w2.heap[w.heap.size]? = some (.cells #[.pointer kf, .pointer kl] 135 (0, 0)) := by rw [hw2, Below.heap_alloc _ _ _ (by simp)]; exact alloc_new _ _
    exact cell_blk this 0 _ rfl
  have c1 : w2.cell? ⟨w.heap.size, 1, none⟩ = some (.pointer kl) := by
    have : w2.heap[w.heap.size]? = some (.cells #[.pointer kf, .pointer kl] 135 (0, 0)) := by rw [hw2, Below.heap_alloc _ _ _ (by simp)]; exact alloc_new _ _
    exact cell_blk this 1 _ rfl
  have hw2H := hid hw2
  have hbwH := hid hbw
  have hs2H := hid hs2
  clear hw2 hbl hk hk2 hs1 hbw hs2
  go_enter Tryz.func79, Tryz.ntmps79
  go_wp2_with fail
  rw [← hw2H.out]
  refine hP.out.mono ?_
  rintro e w3 ⟨rfl, h3⟩
  have hz3 : w.heap.size + 1 ≤ w3.heap.size := by have := h3.2.1.size; have := hs2H.out; omega
  have hSt := hid (Tryz.stringB (w.heap.size + 1) (w.heap.size + 1) _ w3 h3.1 hz3)
  have h3H := hid h3
  clear h3
  go_wp2_with fail
  refine hSt.out.mono ?_
  rintro e w4 ⟨rfl, _, h4, _⟩
  have h4H := hid h4
  clear h4
  go_wp2
  go_ret
  refine ⟨rfl, hbwH.out.trans ((h3H.out.2.1.trans h4H.out).mono (Nat.le_succ _))⟩
end Go.Proofs.YtlojgpkajkedeaaGreatDoor
/- Parts: as a page bears them. -/
namespace Go.Proofs.YtlojgpkajkedeaaGreatDoor
open Go.RowKit

theorem size_lit (a : Array UInt8) : (ByteArray.mk a).size = a.size := rfl
theorem bldF_below {T : TypeId} {B b : Nat} {bs : List Value} {w w' : World} (h : Lib.IsBuilderF T 5 B b bs w) (hb : Below w.heap.size w w') : Lib.IsBuilderF T 5 B b bs w' := by
  have key : ∀ p, Lib.BuilderAtF T 5 B b p bs w → Lib.BuilderAtF T 5 B b p bs w' := by
    rintro p ⟨h1, v, h2, h3, h4⟩
    refine ⟨h1, v, (hb.block b (Array.getElem?_eq_some_iff.1 h2).1).trans h2, h3.kept (Below.toGrown hb) ?_, h4⟩
    cases hv : v.ownBlock with
    | none => exact .inl rfl
    | some g => exact .inr (by simp)
  rcases h with h | h
  · exact .inl (key _ h)
  · exact .inr (key _ h)
theorem Wrote.below {T : TypeId} {B b : Nat} {l : List UInt8} {w w1 w2 : World} (h : Wrote T B b l w w1) (hb : Below w1.heap.size w1 w2) (hB : B ≤ w1.heap.size) : Wrote T B b l w w2 :=
  ⟨bldF_below h.1 hb, h.2.1.trans (hb.mono hB), h.2.2.trans (fun k _ hk _ _ => (hb.block k (Array.getElem?_eq_some_iff.1 hk).1).trans hk)⟩
theorem Wrote.blk {T : TypeId} {B b : Nat} {l l0 : List UInt8} {w w' : World} (h : Wrote T B b l w w') (hbl : Lib.IsBuilderF T 5 B b (Lib.byteCells l0) w) {x T2 : Nat} {cs2 : Array Value} (hx : w.heap[x]? = some (.cells cs2 T2 (0, 0))) (hT : T2 ≠ T) (h5 : T2 ≠ 5) : w'.heap[x]? = some (.cells cs2 T2 (0, 0)) := by
  obtain ⟨cs, hb⟩ := bldF_heap hbl
  exact kept_blk h.2.2 hb hx hT h5
/-- Parts are written between two marks, behind what a page holds. -/
def BetweenOK (ps : List Pt) : Prop := ∀ (B b : Nat) (A : Nat → Prop) (kf kl : Option Addr) (l : List UInt8) (beg en : ByteArray) (w : World), PageF B b l w → B ≤ w.heap.size → l.length + beg.size + 30 * wgL ps + en.size ≤ 1000000000 → KRep w A kf ps →
  Calls Tryz.prog 227 #[.pointer (some ⟨b, 0, none⟩), .string beg, .agg #[.pointer kf, .pointer kl], .string en] w fun e w' => e = .returned (.tuple #[]) ∧ Wrote 124 B b (l ++ (beg.data.toList ++ ptsHt ps ++ en.data.toList)) w w'

set_option maxRecDepth 100000 in
set_option maxHeartbeats 8000000 in
theorem part_any (p : Pt) (hK : BetweenOK p.kids) (B b : Nat) (A : Nat → Prop) (kf kl : Option Addr) (rz : Int) (ro rc : Bool) (l : List UInt8) (w : World) (hbl : PageF B b l w) (hB : B ≤ w.heap.size) (hl : l.length + 30 * wgP p ≤ 1000000000) (hk : KRep w A kf p.kids) :
    Calls Tryz.prog 257 #[.pointer (some ⟨b, 0, none⟩), .agg #[.int .i64 p.kind, .string (S.B p.info), .string (S.B p.text), .pointer kf, .pointer kl, .int .i64 rz, .bool ro, .bool rc]] w fun e w' => e = .returned (.tuple #[]) ∧ Wrote 124 B b (l ++ ptHt p) w w' := by
  rw [wgP_eq] at hl
  have hht := hid (ptHt_eq p)
  obtain ⟨kd, hkd⟩ : ∃ x, p.kind = x := ⟨_, rfl⟩
  rw [hkd] at hht ⊢
  obtain ⟨inf, hinf⟩ : ∃ x, p.info = x := ⟨_, rfl⟩
  obtain ⟨tx, htx⟩ : ∃ x, p.text = x := ⟨_, rfl⟩
  obtain ⟨ks, hks⟩ : ∃ x, p.kids = x := ⟨_, rfl⟩
  rw [hinf, htx, hks] at hht hl
  rw [hinf, htx]
  rw [hks] at hK hk
  have he1 := S.escH_le inf
  have he2 := S.escH_le tx
  have he3 := S.escH_le (ptsPl ks)
  have he4 := ptsPl_le ks
  have he5 := ptsHt_le ks
  obtain ⟨WX, hWX⟩ : ∃ WX, WX = w.alloc (.cells #[.int .i64 kd, .string (S.B inf), .string (S.B tx), .pointer kf, .pointer kl, .int .i64 rz, .bool ro, .bool rc] 177) := ⟨_, rfl⟩
  have hW0 : Wrote 124 B b l w WX := by rw [hWX]; exact (Wrote.refl hbl).allocd hB _
  have hX0 : WX.heap[w.heap.size]? = some (.cells #[.int .i64 kd, .string (S.B inf), .string (S.B tx), .pointer kf, .pointer kl, .int .i64 rz, .bool ro, .bool rc] 177 (0, 0)) := by rw [hWX]; exact alloc_new _ _
  have hBX : B ≤ WX.heap.size := Nat.le_trans hB hW0.2.1.size
  have hkX : KRep WX A kf ks := by rw [hWX]; exact hk.alloc _
  have hst0 := hid (Wrote.refl hW0.1)
  have stX : Hid (∀ l' w1, Wrote 124 B b l' WX w1 → w1.heap[w.heap.size]? = some (.cells #[.int .i64 kd, .string (S.B inf), .string (S.B tx), .pointer kf, .pointer kl, .int .i64 rz, .bool ro, .bool rc] 177 (0, 0))) := hid (fun l' w1 h => h.blk hW0.1 hX0 (by decide) (by decide))
  have stW : Hid (∀ (l' : List UInt8) (x : ByteArray) (w1 : World), Wrote 124 B b l' WX w1 → l'.length + x.size ≤ 1000000000 → Calls Tryz.prog 60 #[.pointer (some ⟨b, 0, none⟩), .string x] w1 fun e w2 => e = .returned (.tuple #[.int .i64 x.size, .nilIface]) ∧ Wrote 124 B b (l' ++ x.data.toList) WX w2) := hid (fun l' x w1 h hl' => (pwrite B b l' x w1 h.1 hl' (Nat.le_trans hBX h.2.1.size)).mono (fun e w2 ⟨h1, h2⟩ => ⟨h1, h.trans h2⟩))
  have stB : Hid (∀ (l' : List UInt8) (x : UInt8) (w1 : World), Wrote 124 B b l' WX w1 → l'.length + 1 ≤ 1000000000 → Calls Tryz.prog 151 #[.pointer (some ⟨b, 0, none⟩), .int .u8 (x.toNat : Int)] w1 fun e w2 => e = .returned .nilIface ∧ Wrote 124 B b (l' ++ [x]) WX w2) := hid (fun l' x w1 h hl' => (pwriteB B b l' x w1 h.1 hl' (Nat.le_trans hBX h.2.1.size)).mono (fun e w2 ⟨h1, h2⟩ => ⟨h1, h.trans h2⟩))
  have stE : Hid (∀ (l' x : List UInt8) (w1 : World), Wrote 124 B b l' WX w1 → l'.length + 6 * x.length ≤ 1000000000 → Calls Tryz.prog 195 #[.pointer (some ⟨b, 0, none⟩), .string (S.B x)] w1 fun e w2 => e = .returned (.tuple #[]) ∧ Wrote 124 B b (l' ++ S.escH x) WX w2) := hid (fun l' x w1 h hl' => by
    have := wesc_any B b l' (S.B x) w1 h.1 (by rw [S.size_B]; exact hl') (Nat.le_trans hBX h.2.1.size)
    rw [S.data_B] at this
    exact this.mono (fun e w2 ⟨h1, h2⟩ => ⟨h1, h.trans h2⟩))
  have stK : Hid (∀ (l' : List UInt8) (beg en : ByteArray) (w1 : World), Wrote 124 B b l' WX w1 → l'.length + beg.size + 30 * wgL ks + en.size ≤ 1000000000 → Calls Tryz.prog 227 #[.pointer (some ⟨b, 0, none⟩), .string beg, .agg #[.pointer kf, .pointer kl], .string en] w1 fun e w2 => e = .returned (.tuple #[]) ∧ Wrote 124 B b (l' ++ (beg.data.toList ++ ptsHt ks ++ en.data.toList)) WX w2) := hid (fun l' beg en w1 h hl' => by
    obtain ⟨cs, hbb⟩ := bldF_heap hW0.1
    exact (hK B b A kf kl l' beg en w1 h.1 (Nat.le_trans hBX h.2.1.size) hl' (hkX.kept h.2.2 hbb (by decide))).mono (fun e w2 ⟨h1, h2⟩ => ⟨h1, h.trans h2⟩))
  have stP : Hid (∀ (l' : List UInt8) (w1 : World), Wrote 124 B b l' WX w1 → Calls Tryz.prog 79 #[.agg #[.pointer kf, .pointer kl]] w1 fun e w2 => e = .returned (.string (S.B (ptsPl ks))) ∧ Wrote 124 B b l' WX w2) := hid (fun l' w1 h => by
    obtain ⟨cs, hbb⟩ := bldF_heap hW0.1
    refine (plainOf_any ks A kf kl w1 (by omega) (hkX.kept h.2.2 hbb (by decide))).mono ?_
    rintro e w2 ⟨h1, h2⟩
    exact ⟨h1, h.below h2 (Nat.le_trans hBX h.2.1.size)⟩)
  have hfin : Hid (∀ l' w1, Wrote 124 B b l' WX w1 → l' = l ++ ptHt p → Wrote 124 B b (l ++ ptHt p) w w1) := hid (fun l' w1 h hl' => by rw [← hl']; exact hW0.trans h)
  have hWXH := hid hWX
  have x0 : WX.cell? ⟨w.heap.size, 0, none⟩ = some (.int .i64 kd) := cell_blk hX0 0 _ rfl
  have x1 : WX.cell? ⟨w.heap.size, 1, none⟩ = some (.string (S.B inf)) := cell_blk hX0 1 _ rfl
  have x2 : WX.cell? ⟨w.heap.size, 2, none⟩ = some (.string (S.B tx)) := cell_blk hX0 2 _ rfl
  have x3 : WX.cell? ⟨w.heap.size, 3, none⟩ = some (.pointer kf) := cell_blk hX0 3 _ rfl
  have x4 : WX.cell? ⟨w.heap.size, 4, none⟩ = some (.pointer kl) := cell_blk hX0 4 _ rfl
  clear hbl hkX hk hK hX0 hBX hW0 hkd hinf htx hks hWX
  rcases Classical.em (kd = 8) with h8 | h8
  · subst h8
    have hres : Hid (ptHt p = S.escH tx) := hid (by rw [hht.out]; rfl)
    clear hht
    go_enter Tryz.func257, Tryz.ntmps257
    go_wp2_with fail
    rw [← hWXH.out]
    refine (stE.out _ tx _ hst0.out (by (try simp only [List.length_append, List.length_cons, List.length_nil]) <;> omega)).mono ?_
    rintro e1 w1 ⟨rfl, g1⟩
    have y1 := stX.out _ _ g1
    have y1_1 := cell_blk y1 1 _ rfl
    have y1_2 := cell_blk y1 2 _ rfl
    have y1_3 := cell_blk y1 3 _ rfl
    have y1_4 := cell_blk y1 4 _ rfl
    have G1 := hid g1
    clear g1 y1
    go_wp2
    go_end0
    exact ⟨rfl, hfin.out _ _ G1.out (by rw [hres.out] <;> simp)⟩
  rcases Classical.em (kd = 9) with h9 | h9
  · subst h9
    have hres : Hid (ptHt p = [10]) := hid (by rw [hht.out]; rfl)
    clear hht
    go_enter Tryz.func257, Tryz.ntmps257
    go_wp2_with fail
    rw [← hWXH.out]
    refine (stB.out _ 10 _ hst0.out (by (try simp only [List.length_append, List.length_cons, List.length_nil]) <;> omega)).mono ?_
    rintro e1 w1 ⟨rfl, g1⟩
    have y1 := stX.out _ _ g1
    have y1_1 := cell_blk y1 1 _ rfl
    have y1_2 := cell_blk y1 2 _ rfl
    have y1_3 := cell_blk y1 3 _ rfl
    have y1_4 := cell_blk y1 4 _ rfl
    have G1 := hid g1
    clear g1 y1
    go_wp2
    go_end0
    exact ⟨rfl, hfin.out _ _ G1.out (by rw [hres.out] <;> simp)⟩
  rcases Classical.em (kd = 10) with h10 | h10
  · subst h10
    have hres : Hid (ptHt p = [60, 98, 114, 62, 10]) := hid (by rw [hht.out]; rfl)
    clear hht
    go_enter Tryz.func257, Tryz.ntmps257
    go_wp2_with fail
    rw [← hWXH.out]
    refine (stW.out _ ⟨#[60, 98, 114, 62, 10]⟩ _ hst0.out (by (try simp only [size_lit, List.size_toArray, List.length_cons, List.length_nil]) <;> omega)).mono ?_
    rintro e1 w1 ⟨rfl, g1⟩
    have y1 := stX.out _ _ g1
    have y1_1 := cell_blk y1 1 _ rfl
    have y1_2 := cell_blk y1 2 _ rfl
    have y1_3 := cell_blk y1 3 _ rfl
    have y1_4 := cell_blk y1 4 _ rfl
    have G1 := hid g1
    clear g1 y1
    go_wp2
    go_end0
    exact ⟨rfl, hfin.out _ _ G1.out (by rw [hres.out] <;> simp)⟩
  rcases Classical.em (kd = 11) with h11 | h11
  · subst h11
    have hres : Hid (ptHt p = [60, 99, 111, 100, 101, 62] ++ S.escH tx ++ [60, 47, 99, 111, 100, 101, 62]) := hid (by rw [hht.out]; rfl)
    clear hht
    go_enter Tryz.func257, Tryz.ntmps257
    go_wp2_with fail
    rw [← hWXH.out]
    refine (stW.out _ ⟨#[60, 99, 111, 100, 101, 62]⟩ _ hst0.out (by (try simp only [size_lit, List.size_toArray, List.length_cons, List.length_nil]) <;> omega)).mono ?_
    rintro e1 w1 ⟨rfl, g1⟩
    have y1 := stX.out _ _ g1
    have y1_1 := cell_blk y1 1 _ rfl
    have y1_2 := cell_blk y1 2 _ rfl
    have y1_3 := cell_blk y1 3 _ rfl
    have y1_4 := cell_blk y1 4 _ rfl
    have G1 := hid g1
    clear g1 y1
    go_wp2_with fail
    refine (stE.out _ tx _ G1.out (by (try simp only [List.length_append, List.length_cons, List.length_nil]) <;> omega)).mono ?_
    rintro e2 w2 ⟨rfl, g2⟩
    have y2 := stX.out _ _ g2
    have y2_1 := cell_blk y2 1 _ rfl
    have y2_2 := cell_blk y2 2 _ rfl
    have y2_3 := cell_blk y2 3 _ rfl
    have y2_4 := cell_blk y2 4 _ rfl
    have G2 := hid g2
    clear g2 y2
    go_wp2_with fail
    refine (stW.out _ ⟨#[60, 47, 99, 111, 100, 101, 62]⟩ _ G2.out (by (try simp only [size_lit, List.size_toArray, List.length_append, List.length_cons, List.length_nil]) <;> omega)).mono ?_
    rintro e3 w3 ⟨rfl, g3⟩
    have y3 := stX.out _ _ g3
    have y3_1 := cell_blk y3 1 _ rfl
    have y3_2 := cell_blk y3 2 _ rfl
    have y3_3 := cell_blk y3 3 _ rfl
    have y3_4 := cell_blk y3 4 _ rfl
    have G3 := hid g3
    clear g3 y3
    go_wp2
    go_end0
    exact ⟨rfl, hfin.out _ _ G3.out (by rw [hres.out] <;> simp)⟩
  rcases Classical.em (kd = 12) with h12 | h12
  · subst h12
    have hres : Hid (ptHt p = [60, 97, 32, 104, 114, 101, 102, 61, 34] ++ S.escH inf ++ ([34, 62] ++ ptsHt ks ++ [60, 47, 97, 62])) := hid (by rw [hht.out]; rfl)
    clear hht
    go_enter Tryz.func257, Tryz.ntmps257
    go_wp2_with fail
    rw [← hWXH.out]
    refine (stW.out _ ⟨#[60, 97, 32, 104, 114, 101, 102, 61, 34]⟩ _ hst0.out (by (try simp only [size_lit, List.size_toArray, List.length_cons, List.length_nil]) <;> omega)).mono ?_
    rintro e1 w1 ⟨rfl, g1⟩
    have y1 := stX.out _ _ g1
    have y1_1 := cell_blk y1 1 _ rfl
    have y1_2 := cell_blk y1 2 _ rfl
    have y1_3 := cell_blk y1 3 _ rfl
    have y1_4 := cell_blk y1 4 _ rfl
    have G1 := hid g1
    clear g1 y1
    go_wp2_with fail
    refine (stE.out _ inf _ G1.out (by (try simp only [List.length_append, List.length_cons, List.length_nil]) <;> omega)).mono ?_
    rintro e2 w2 ⟨rfl, g2⟩
    have y2 := stX.out _ _ g2
    have y2_1 := cell_blk y2 1 _ rfl
    have y2_2 := cell_blk y2 2 _ rfl
    have y2_3 := cell_blk y2 3 _ rfl
    have y2_4 := cell_blk y2 4 _ rfl
    have G2 := hid g2
    clear g2 y2
    go_wp2_with fail
    refine (stK.out _ ⟨#[34, 62]⟩ ⟨#[60, 47, 97, 62]⟩ _ G2.out (by (try simp only [size_lit, List.size_toArray, List.length_append, List.length_cons, List.length_nil]) <;> omega)).mono ?_
    rintro e3 w3 ⟨rfl, g3⟩
    have y3 := stX.out _ _ g3
    have y3_1 := cell_blk y3 1 _ rfl
    have y3_2 := cell_blk y3 2 _ rfl
    have y3_3 := cell_blk y3 3 _ rfl
    have y3_4 := cell_blk y3 4 _ rfl
    have G3 := hid g3
    clear g3 y3
    go_wp2
    go_end0
    exact ⟨rfl, hfin.out _ _ G3.out (by rw [hres.out] <;> simp)⟩
  rcases Classical.em (kd = 13) with h13 | h13
  · subst h13
    have hres : Hid (ptHt p = [60, 105, 109, 103, 32, 115, 114, 99, 61, 34] ++ S.escH inf ++ [34, 32, 97, 108, 116, 61, 34] ++ S.escH (ptsPl ks) ++ [34, 62]) := hid (by rw [hht.out]; rfl)
    clear hht
    go_enter Tryz.func257, Tryz.ntmps257
    go_wp2_with fail
    rw [← hWXH.out]
    refine (stW.out _ ⟨#[60, 105, 109, 103, 32, 115, 114, 99, 61, 34]⟩ _ hst0.out (by (try simp only [size_lit, List.size_toArray, List.length_cons, List.length_nil]) <;> omega)).mono ?_
    rintro e1 w1 ⟨rfl, g1⟩
    have y1 := stX.out _ _ g1
    have y1_1 := cell_blk y1 1 _ rfl
    have y1_2 := cell_blk y1 2 _ rfl
    have y1_3 := cell_blk y1 3 _ rfl
    have y1_4 := cell_blk y1 4 _ rfl
    have G1 := hid g1
    clear g1 y1
    go_wp2_with fail
    refine (stE.out _ inf _ G1.out (by (try simp only [List.length_append, List.length_cons, List.length_nil]) <;> omega)).mono ?_
    rintro e2 w2 ⟨rfl, g2⟩
    have y2 := stX.out _ _ g2
    have y2_1 := cell_blk y2 1 _ rfl
    have y2_2 := cell_blk y2 2 _ rfl
    have y2_3 := cell_blk y2 3 _ rfl
    have y2_4 := cell_blk y2 4 _ rfl
    have G2 := hid g2
    clear g2 y2
    go_wp2_with fail
    refine (stW.out _ ⟨#[34, 32, 97, 108, 116, 61, 34]⟩ _ G2.out (by (try simp only [size_lit, List.size_toArray, List.length_append, List.length_cons, List.length_nil]) <;> omega)).mono ?_
    rintro e3 w3 ⟨rfl, g3⟩
    have y3 := stX.out _ _ g3
    have y3_1 := cell_blk y3 1 _ rfl
    have y3_2 := cell_blk y3 2 _ rfl
    have y3_3 := cell_blk y3 3 _ rfl
    have y3_4 := cell_blk y3 4 _ rfl
    have G3 := hid g3
    clear g3 y3
    go_wp2_with fail
    refine (stP.out _ _ G3.out).mono ?_
    rintro e4 w4 ⟨rfl, g4⟩
    have y4 := stX.out _ _ g4
    have y4_1 := cell_blk y4 1 _ rfl
    have y4_2 := cell_blk y4 2 _ rfl
    have y4_3 := cell_blk y4 3 _ rfl
    have y4_4 := cell_blk y4 4 _ rfl
    have G4 := hid g4
    clear g4 y4
    go_wp2_with fail
    refine (stE.out _ (ptsPl ks) _ G4.out (by (try simp only [List.length_append, List.length_cons, List.length_nil]) <;> omega)).mono ?_
    rintro e5 w5 ⟨rfl, g5⟩
    have y5 := stX.out _ _ g5
    have y5_1 := cell_blk y5 1 _ rfl
    have y5_2 := cell_blk y5 2 _ rfl
    have y5_3 := cell_blk y5 3 _ rfl
    have y5_4 := cell_blk y5 4 _ rfl
    have G5 := hid g5
    clear g5 y5
    go_wp2_with fail
    refine (stW.out _ ⟨#[34, 62]⟩ _ G5.out (by (try simp only [size_lit, List.size_toArray, List.length_append, List.length_cons, List.length_nil]) <;> omega)).mono ?_
    rintro e6 w6 ⟨rfl, g6⟩
    have y6 := stX.out _ _ g6
    have y6_1 := cell_blk y6 1 _ rfl
    have y6_2 := cell_blk y6 2 _ rfl
    have y6_3 := cell_blk y6 3 _ rfl
    have y6_4 := cell_blk y6 4 _ rfl
    have G6 := hid g6
    clear g6 y6
    go_wp2
    go_end0
    exact ⟨rfl, hfin.out _ _ G6.out (by rw [hres.out] <;> simp)⟩
  rcases Classical.em (kd = 14) with h14 | h14
  · subst h14
    have hres : Hid (ptHt p = [60, 101, 109, 62] ++ ptsHt ks ++ [60, 47, 101, 109, 62]) := hid (by rw [hht.out]; rfl)
    clear hht
    go_enter Tryz.func257, Tryz.ntmps257
    go_wp2_with fail
    rw [← hWXH.out]
    refine (stK.out _ ⟨#[60, 101, 109, 62]⟩ ⟨#[60, 47, 101, 109, 62]⟩ _ hst0.out (by (try simp only [size_lit, List.size_toArray, List.length_cons, List.length_nil]) <;> omega)).mono ?_
    rintro e1 w1 ⟨rfl, g1⟩
    have y1 := stX.out _ _ g1
    have y1_1 := cell_blk y1 1 _ rfl
    have y1_2 := cell_blk y1 2 _ rfl
    have y1_3 := cell_blk y1 3 _ rfl
    have y1_4 := cell_blk y1 4 _ rfl
    have G1 := hid g1
    clear g1 y1
    go_wp2
    go_end0
    exact ⟨rfl, hfin.out _ _ G1.out (by rw [hres.out] <;> simp)⟩
  rcases Classical.em (kd = 15) with h15 | h15
  · subst h15
    have hres : Hid (ptHt p = [60, 115, 116, 114, 111, 110, 103, 62] ++ ptsHt ks ++ [60, 47, 115, 116, 114, 111, 110, 103, 62]) := hid (by rw [hht.out]; rfl)
    clear hht
    go_enter Tryz.func257, Tryz.ntmps257
    go_wp2_with fail
    rw [← hWXH.out]
    refine (stK.out _ ⟨#[60, 115, 116, 114, 111, 110, 103, 62]⟩ ⟨#[60, 47, 115, 116, 114, 111, 110, 103, 62]⟩ _ hst0.out (by (try simp only [size_lit, List.size_toArray, List.length_cons, List.length_nil]) <;> omega)).mono ?_
    rintro e1 w1 ⟨rfl, g1⟩
    have y1 := stX.out _ _ g1
    have y1_1 := cell_blk y1 1 _ rfl
    have y1_2 := cell_blk y1 2 _ rfl
    have y1_3 := cell_blk y1 3 _ rfl
    have y1_4 := cell_blk y1 4 _ rfl
    have G1 := hid g1
    clear g1 y1
    go_wp2
    go_end0
    exact ⟨rfl, hfin.out _ _ G1.out (by rw [hres.out] <;> simp)⟩
  · have hres : Hid (ptHt p = []) := hid (by rw [hht.out, if_neg h8, if_neg h9, if_neg h10, if_neg h11, if_neg h12, if_neg h13, if_neg h14, if_neg h15])
    have e8 : (kd == 8) = false := by rw [beq_eq_false_iff_ne]; exact h8
    have e9 : (kd == 9) = false := by rw [beq_eq_false_iff_ne]; exact h9
    have e10 : (kd == 10) = false := by rw [beq_eq_false_iff_ne]; exact h10
    have e11 : (kd == 11) = false := by rw [beq_eq_false_iff_ne]; exact h11
    have e12 : (kd == 12) = false := by rw [beq_eq_false_iff_ne]; exact h12
    have e13 : (kd == 13) = false := by rw [beq_eq_false_iff_ne]; exact h13
    have e14 : (kd == 14) = false := by rw [beq_eq_false_iff_ne]; exact h14
    have e15 : (kd == 15) = false := by rw [beq_eq_false_iff_ne]; exact h15
    clear h8 h9 h10 h11 h12 h13 h14 h15
    clear hht
    go_enter Tryz.func257, Tryz.ntmps257
    go_wp2
    rw [← hWXH.out]
    go_end0
    exact ⟨rfl, hfin.out _ _ hst0.out (by rw [hres.out] <;> simp)⟩
end Go.Proofs.YtlojgpkajkedeaaGreatDoor
