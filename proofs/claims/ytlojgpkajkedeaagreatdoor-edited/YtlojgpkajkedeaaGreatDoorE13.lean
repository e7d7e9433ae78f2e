import Derived.Test.YtlojgpkajkedeaaGreatDoorE11
/- Parts are laid: layRun, laySpan. -/
namespace Go.Proofs.YtlojgpkajkedeaaGreatDoor
open Go.RowKit

def runPt (ct : ByteArray) (k n : Nat) : Pt := .mk 8 [] ((ct.data.toList.drop k).take n) [] n (S.runOpens ct.data.toList k n) (S.runCloses ct.data.toList k n)

set_option maxRecDepth 100000 in
set_option maxHeartbeats 4000000 in
theorem layRun_any (C : Nat) (ct : ByteArray) (f k n : Nat) (ms : List Mem) (os : List Opn) (sa : Option Addr) (sc : Nat) (A : Nat → Prop) (w : World) (h : Cut C ct f k ms os sa sc A w) (hk : k < ct.size) (hc : ct[k].toNat < 128) (hn : S.same (ct.data.toList.drop k) = n) (hkn : k + n ≤ ct.size) :
    Calls Tryz.prog 157 #[.pointer (some ⟨C, 0, none⟩)] w fun e w' => ∃ m1 m2, e = .returned (.tuple #[]) ∧ w.heap.size ≤ m1 ∧ w.heap.size ≤ m2 ∧ Cut C ct (k + n) (k + n) ((ms ++ skipMs ct f k m1) ++ [⟨m2, runPt ct k n, none, none⟩]) os sa sc A w' ∧ Fr (C :: blks ms) w w' := by
  have hcl := h.lt
  have hcc := h.cells
  have hsm := h.small
  have q0 : w.cell? ⟨C, 0, none⟩ = some (.string ct) := cell_blk hcc 0 _ rfl
  have q2 : w.cell? ⟨C, 2, none⟩ = some (.int .i64 (k : Nat)) := cell_blk hcc 2 _ rfl
  have hR := hid (fun (wx : World) (hx : wx.heap[C]? = w.heap[C]?) => rest_any C ct f k _ _ _ wx (hx.trans hcc) (Nat.le_of_lt hk))
  have hz : (ct.extract k ct.size).size = ct.size - k := by simp
  have hcs : Hid (∀ wx, Calls Tryz.prog 153 #[.string (ct.extract k ct.size)] wx fun e w' => e = .returned (.int .i64 (n : Nat)) ∧ wx = w') := hid (fun wx => by
    have := countSame_any (ct.extract k ct.size) wx (by rw [hz]; simp [maxLen]; omega) (by omega) (by rw [ByteArray.getElem_extract]; simpa using hc)
    rw [ext_rest, hn] at this; exact this)
  have hnl : Hid (∀ b, w.heap.size ≤ b → b ∉ C :: blks ms) := hid (fun b hb hm => by
    rcases List.mem_cons.1 hm with hm | hm
    · omega
    · have := h.ch.mlt _ hm; omega)
  have hrun := hid (fun wx => runOf_any ct k n wx hsm hk hkn)
  have hH := hid h
  have hL := hid (fun (wx : World) (hb : Below w.heap.size w wx) => lay_any C ct f k n ms os sa sc A (runPt ct k n) none none wx (h.below hb) hkn (by simp [runPt, Pt.text]; omega) (by simp [runPt, Pt.rs]; omega) .nil)
  have hpv : partV (runPt ct k n) none none = .agg #[.int .i64 8, .string ⟨#[]⟩, .string ((ct.extract k ct.size).extract 0 n), .pointer none, .pointer none, .int .i64 (n : Nat), .bool (S.runOpens ct.data.toList k n), .bool (S.runCloses ct.data.toList k n)] := by
    have : S.B ((ct.data.toList.drop k).take n) = (ct.extract k ct.size).extract 0 n := by rw [← S.B_data ((ct.extract k ct.size).extract 0 n), ext_data, ext_rest]; simp
    simp only [partV, runPt, Pt.kind, Pt.info, Pt.text, Pt.rs, Pt.ro, Pt.rc, this]; rfl
  rw [hpv] at hL
  clear h hcc hpv
  have hI0 : (0 : Int) ≤ (n : Int) := by omega
  have hI1 : (n : Int) ≤ ((ct.extract k ct.size).size : Int) := by omega
  have hI2 : (n : Int) ≤ ((ct.size - k : Nat) : Int) := by omega
  have hI3 : n ≤ ct.size - k := by omega
  generalize S.runOpens ct.data.toList k n = ro at hrun hL
  generalize S.runCloses ct.data.toList k n = rc at hrun hL
  go_enter Tryz.func157, Tryz.ntmps157
  go_wp2_with fail
  refine (hR.out w rfl).mono ?_
  rintro e w' ⟨rfl, rfl⟩
  go_wp2_with fail
  refine (hcs.out _).mono ?_
  rintro e w' ⟨rfl, rfl⟩
  go_wp2_with fail
  have qd0 : w.drew.cell? ⟨C, 0, none⟩ = some (.string ct) := q0
  have qd2 : w.drew.cell? ⟨C, 2, none⟩ = some (.int .i64 (k : Nat)) := q2
  have hn0 : ¬ w.heap.size = C := by omega
  have hn0' : ¬ C = w.heap.size := by omega
  go_region_held3 (fun w' => w'.cell? ⟨C, 0, none⟩ = some (.string ct) ∧ w'.cell? ⟨C, 2, none⟩ = some (.int .i64 (k : Nat)))
    ((refine ⟨?_, ?_⟩ <;> (first | assumption | go_keep)))
    ((go_at_call 202; refine (hrun.out _).mono ?_; rintro e w1 ⟨rfl, hb1⟩; obtain ⟨hc1, hf1⟩ := bcell hb1; have j0 : w1.cell? ⟨C, 0, none⟩ = some (.string ct) := (hc1 _ _ (by first | exact hcl | (simp; omega))).trans (by first | exact qd0 | (have := qd0; go_keep)); have j2 : w1.cell? ⟨C, 2, none⟩ = some (.int .i64 (k : Nat)) := (hc1 _ _ (by first | exact hcl | (simp; omega))).trans (by first | exact qd2 | (have := qd2; go_keep)); have hs1 := hb1.size; have hs2 : w.heap.size ≤ w1.heap.size := Nat.le_trans (by first | exact Nat.le_refl _ | simp) hs1; have hn1 : ¬ w1.heap.size = C := (Nat.ne_of_gt (Nat.lt_of_lt_of_le hcl hs2))))
  · obtain ⟨W, hW⟩ : ∃ W, W = w1.alloc (.cells #[.int .i64 (n : Nat), .bool ro, .bool rc] 175) := ⟨_, rfl⟩
    have hbW : Below w.heap.size w W := by rw [hW]; exact (((Below.refl _ w).drew.drew).trans hb1).alloc hs2 _
    obtain ⟨b, hb⟩ : ∃ b, b = w1.heap.size := ⟨_, rfl⟩
    have hbx : W.heap[b]? = some (.cells #[.int .i64 (n : Nat), .bool ro, .bool rc] 175 (0, 0)) := by rw [hW, hb]; exact alloc_new _ _
    rw [← hW, ← hb]
    have hbz : w.heap.size ≤ b := by omega
    clear hc1 hf1 hb1 j0 j2 hs1 hs2 hn1 hW hb
    have k0 : W.cell? ⟨b, 0, none⟩ = some (.int .i64 (n : Nat)) := cell_blk hbx 0 _ rfl
    have k1 : W.cell? ⟨b, 1, none⟩ = some (.bool ro) := cell_blk hbx 1 _ rfl
    have k2 : W.cell? ⟨b, 2, none⟩ = some (.bool rc) := cell_blk hbx 2 _ rfl
    have hbl : b < W.heap.size := (Array.getElem?_eq_some_iff.1 hbx).1
    have hRW := hid (hR.out W.drew (hbW.block C hcl))
    have hLW := hid (hL.out W.drew.drew hbW.drew.drew)
    clear hbx qd0 qd2
    go_wp2_with fail
    go_region_held3 (fun w' => w'.cell? ⟨b, 0, none⟩ = some (.int .i64 (n : Nat)) ∧ w'.cell? ⟨b, 1, none⟩ = some (.bool ro) ∧ w'.cell? ⟨b, 2, none⟩ = some (.bool rc))
      ((refine ⟨?_, ?_, ?_⟩ <;> (first | assumption | with_reducible exact k0 | with_reducible exact k1 | with_reducible exact k2)))
      (first | (go_at_call 154; refine hRW.out.mono ?_; rintro e w' ⟨rfl, rfl⟩; have j0 : W.drew.drew.cell? ⟨b, 0, none⟩ = some (.int .i64 (n : Nat)) := k0; have j1 : W.drew.drew.cell? ⟨b, 1, none⟩ = some (.bool ro) := k1; have j2 : W.drew.drew.cell? ⟨b, 2, none⟩ = some (.bool rc) := k2) | (go_at_call 162; refine hLW.out.mono ?_; rintro e w2 ⟨m1, m2, rfl, hm1, hm2, hC2, hf2⟩; have hbb := fun (o : Nat) => cell_same (hf2.block b hbl (hnl.out b hbz)) o; have j0 := (hbb 0).trans k0; have j1 := (hbb 1).trans k1; have j2 := (hbb 2).trans k2))
    go_end0
    have hzz := hbW.size
    exact ⟨m1, m2, rfl, Nat.le_trans hzz hm1, Nat.le_trans hzz hm2, hC2, ((Fr.ofBelow hbW).drew.drew).trans hf2 (fun x hx => .inl hx)⟩
  · obtain ⟨W, hW⟩ : ∃ W, W = (((w1.setCell ⟨w.heap.size, 0, none⟩ (.int .i64 (n : Nat))).setCell ⟨w.heap.size, 1, none⟩ (.bool ro)).setCell ⟨w.heap.size, 2, none⟩ (.bool rc)) := ⟨_, rfl⟩
    have hbW : Below w.heap.size w W := by rw [hW]; exact ((((((Below.refl _ w).alloc (Nat.le_refl _) _).drew.drew).trans (hb1.mono (by simp))).setCell (Nat.le_refl _) _).setCell (Nat.le_refl _) _).setCell (Nat.le_refl _) _
    obtain ⟨b, hb⟩ : ∃ b, b = w.heap.size := ⟨_, rfl⟩
    have hbx : W.heap[b]? = some (.cells #[.int .i64 (n : Nat), .bool ro, .bool rc] 175 (0, 0)) := by
      rw [hW, hb]
      have h0 : w1.heap[w.heap.size]? = some (.cells #[.int .i64 0, .bool false, .bool false] 175 (0, 0)) := by
        rw [hb1.block _ (by simp)]; exact alloc_new _ _
      exact set_blk (set_blk (set_blk h0 0 _) 1 _) 2 _
    rw [← hW, ← hb]
    have hbz : w.heap.size ≤ b := by omega
    clear hc1 hf1 hb1 j0 j2 hs1 hs2 hn1 hW hb
    have k0 : W.cell? ⟨b, 0, none⟩ = some (.int .i64 (n : Nat)) := cell_blk hbx 0 _ rfl
    have k1 : W.cell? ⟨b, 1, none⟩ = some (.bool ro) := cell_blk hbx 1 _ rfl
    have k2 : W.cell? ⟨b, 2, none⟩ = some (.bool rc) := cell_blk hbx 2 _ rfl
    have hbl : b < W.heap.size := (Array.getElem?_eq_some_iff.1 hbx).1
    have hRW := hid (hR.out W.drew (hbW.block C hcl))
    have hLW := hid (hL.out W.drew.drew hbW.drew.drew)
    clear hbx qd0 qd2
    go_wp2_with fail
    go_region_held3 (fun w' => w'.cell? ⟨b, 0, none⟩ = some (.int .i64 (n : Nat)) ∧ w'.cell? ⟨b, 1, none⟩ = some (.bool ro) ∧ w'.cell? ⟨b, 2, none⟩ = some (.bool rc))
      ((refine ⟨?_, ?_, ?_⟩ <;> (first | assumption | with_reducible exact k0 | with_reducible exact k1 | with_reducible exact k2)))
      (first | (go_at_call 154; refine hRW.out.mono ?_; rintro e w' ⟨rfl, rfl⟩; have j0 : W.drew.drew.cell? ⟨b, 0, none⟩ = some (.int .i64 (n : Nat)) := k0; have j1 : W.drew.drew.cell? ⟨b, 1, none⟩ = some (.bool ro) := k1; have j2 : W.drew.drew.cell? ⟨b, 2, none⟩ = some (.bool rc) := k2) | (go_at_call 162; refine hLW.out.mono ?_; rintro e w2 ⟨m1, m2, rfl, hm1, hm2, hC2, hf2⟩; have hbb := fun (o : Nat) => cell_same (hf2.block b hbl (hnl.out b hbz)) o; have j0 := (hbb 0).trans k0; have j1 := (hbb 1).trans k1; have j2 := (hbb 2).trans k2))
    go_end0
    have hzz := hbW.size
    exact ⟨m1, m2, rfl, Nat.le_trans hzz hm1, Nat.le_trans hzz hm2, hC2, ((Fr.ofBelow hbW).drew.drew).trans hf2 (fun x hx => .inl hx)⟩

theorem S.spanText_le (l : List UInt8) : (S.spanText l).length ≤ l.length := by
  have h := S.replaceK_len (l.length + 1) l
  have hr : (Lib.replaceAll l [10] [32]).length = l.length := S.replaceAll_len l
  unfold S.spanText
  simp only
  split
  · rw [List.length_take, List.length_drop]; omega
  · omega
def spanPt (ct : ByteArray) (k n e : Nat) : Pt := .mk 11 [] (S.spanText ((ct.data.toList.drop (k + n)).take (e - n))) [] 0 false false

set_option maxRecDepth 100000 in
set_option maxHeartbeats 4000000 in
theorem laySpan_none (C : Nat) (ct : ByteArray) (f k n : Nat) (x3 x4 x5 : Value) (w : World) (h : w.heap[C]? = some (.cells [.string ct, .int .i64 (f : Nat), .int .i64 (k : Nat), x3, x4, x5].toArray 168 (0, 0))) (hsm : ct.size ≤ 1000000) (hk : k < ct.size) (h1 : 1 ≤ n) (hn : k + n ≤ ct.size) (hv : S.spanAt (ct.data.toList.drop k) n = none) :
    Calls Tryz.prog 155 #[.pointer (some ⟨C, 0, none⟩), .int .i64 (n : Nat)] w fun e w' => e = .returned (.bool false) ∧ Below w.heap.size w w' := by
  have hR := hid (rest_any C ct f k x3 x4 x5 w h (Nat.le_of_lt hk))
  have hz : (ct.extract k ct.size).size = ct.size - k := by simp
  have hSp := hid (fun wx => spanned_any (ct.extract k ct.size) n wx (by omega) (by omega) h1 none (by rw [ext_rest]; exact hv))
  clear h
  go_enter Tryz.func155, Tryz.ntmps155
  go_wp2_with fail
  refine hR.out.mono ?_
  rintro e w' ⟨rfl, rfl⟩
  go_wp2_with fail
  refine (hSp.out _).mono ?_
  rintro e w' ⟨rfl, rfl⟩
  simp only [Option.map_none, Option.getD_none, Option.isSome_none]
  go_wp2
  go_ret
  exact ⟨rfl, (Below.refl _ _).drew⟩

set_option maxRecDepth 100000 in
set_option maxHeartbeats 4000000 in
theorem laySpan_some (C : Nat) (ct : ByteArray) (f k n v : Nat) (ms : List Mem) (os : List Opn) (sa : Option Addr) (sc : Nat) (A : Nat → Prop) (w : World) (h : Cut C ct f k ms os sa sc A w) (hk : k < ct.size) (h1 : 1 ≤ n) (hn : k + n ≤ ct.size) (hv : S.spanAt (ct.data.toList.drop k) n = some v) (hnv : n ≤ v) (hvl : k + v + n ≤ ct.size) (henv : Env w) :
    Calls Tryz.prog 155 #[.pointer (some ⟨C, 0, none⟩), .int .i64 (n : Nat)] w fun e w' => ∃ m1 m2, e = .returned (.bool true) ∧ w.heap.size ≤ m1 ∧ w.heap.size ≤ m2 ∧ Cut C ct (k + (v + n)) (k + (v + n)) ((ms ++ skipMs ct f k m1) ++ [⟨m2, spanPt ct k n v, none, none⟩]) os sa sc A w' ∧ Fr (C :: blks ms) w w' := by
  have hcl := h.lt
  have hcc := h.cells
  have hsm := h.small
  have hR := hid (rest_any C ct f k _ _ _ w hcc (Nat.le_of_lt hk))
  have hz : (ct.extract k ct.size).size = ct.size - k := by simp
  have hSp := hid (fun wx => spanned_any (ct.extract k ct.size) n wx (by omega) (by omega) h1 (some v) (by rw [ext_rest]; exact hv))
  obtain ⟨bt, hbt⟩ : ∃ bt, (ct.extract k ct.size).extract n v = bt := ⟨_, rfl⟩
  have hbtl : bt.data.toList = (ct.data.toList.drop (k + n)).take (v - n) := by rw [← hbt, ext_data, ext_rest, List.drop_drop]
  have hbts : bt.size = v - n := by rw [← hbt]; simp; omega
  have hSp' : Hid (∀ wx, Calls Tryz.prog 198 #[.string (ct.extract k ct.size), .int .i64 (n : Nat)] wx fun e w' => e = .returned (.tuple #[.string bt, .bool true]) ∧ wx = w') := hid (fun wx => by have := hSp.out wx; simp only [Option.map_some, Option.getD_some, Option.isSome_some, hbt] at this; exact this)
  have hSt := hid (fun (wx : World) (hx : Below w.heap.size w wx) => spanText_any bt wx (by omega) (henv.below hx))
  have hL := hid (fun (wx : World) (hb : Below w.heap.size w wx) (r : ByteArray) (hr : r.data.toList = S.spanText bt.data.toList) => lay_any C ct f k (v + n) ms os sa sc A (spanPt ct k n v) none none wx (h.below hb) (by omega) (by simp only [spanPt, Pt.text]; have := S.spanText_le ((ct.data.toList.drop (k + n)).take (v - n)); rw [List.length_take] at this; omega) (by simp [spanPt, Pt.rs]) .nil)
  have hpv : ∀ r : ByteArray, r.data.toList = S.spanText bt.data.toList → partV (spanPt ct k n v) none none = .agg #[.int .i64 11, .string ⟨#[]⟩, .string r, .pointer none, .pointer none, .int .i64 0, .bool false, .bool false] := fun r hr => by
    have : S.B (S.spanText ((ct.data.toList.drop (k + n)).take (v - n))) = r := by rw [← hbtl, ← hr, S.B_data]
    simp only [partV, spanPt, Pt.kind, Pt.info, Pt.text, Pt.rs, Pt.ro, Pt.rc, this]; rfl
  have hL' : Hid (∀ (wx : World) (hb : Below w.heap.size w wx) (r : ByteArray) (hr : r.data.toList = S.spanText bt.data.toList), _) := hid (fun wx hb r hr => by have := hL.out wx hb r hr; rw [hpv r hr] at this; exact this)
  clear h hcc hL hpv hSp hbtl hbt
  have hbI : (bt.size : Int) = (v : Int) - (n : Int) := by omega
  go_enter Tryz.func155, Tryz.ntmps155
  go_wp2_with fail
  refine hR.out.mono ?_
  rintro e w' ⟨rfl, rfl⟩
  go_wp2_with fail
  refine (hSp'.out _).mono ?_
  rintro e w' ⟨rfl, rfl⟩
  go_wp2_with fail
  refine (hSt.out _ (Below.refl _ _).drew).mono ?_
  rintro e w1 ⟨r, rfl, hr, hb1⟩
  have hL1 := hid (hL'.out w1 ((Below.refl _ w).drew.trans hb1) r hr.out)
  rw [show ((v + n : Nat) : Int) = ((v - n : Nat) : Int) + 2 * (n : Int) by omega] at hL1
  have hbH := hid hb1
  clear hb1
  go_wp2_with fail
  refine hL1.out.mono ?_
  rintro e w2 ⟨m1, m2, rfl, hm1, hm2, hC2, hf2⟩
  have hall := hid (And.intro hC2 hf2)
  clear hC2 hf2
  go_wp2
  go_ret
  have hzz : w.heap.size ≤ w1.heap.size := hbH.out.size
  exact ⟨m1, m2, rfl, Nat.le_trans hzz hm1, Nat.le_trans hzz hm2, hall.out.1, (Fr.ofBelow ((Below.refl _ w).drew.trans hbH.out)).trans hall.out.2 (fun x hx => .inl hx)⟩

end Go.Proofs.YtlojgpkajkedeaaGreatDoor
