import Derived.Test.YtlojgpkajkedeaaGreatDoorE11
/- Parts are laid: layAddress. -/
namespace Go.Proofs.YtlojgpkajkedeaaGreatDoor
open Go.RowKit

def linkPt (t : List UInt8) : Pt := .mk 12 t [] [textPt t] 0 false false

set_option maxRecDepth 100000 in
set_option maxHeartbeats 4000000 in
theorem of_one (V : Nat) (p : Pt) (kf kl : Option Addr) (w : World) (i0 i5 : Int) (s1 s2 : ByteArray) (a3 a4 : Option Addr) (b6 b7 : Bool) (hpv : partV p kf kl = .agg #[.int .i64 i0, .string s1, .string s2, .pointer a3, .pointer a4, .int .i64 i5, .bool b6, .bool b7]) (T : Nat) (h : w.heap[V]? = some (.cells #[.int .i64 i0, .string s1, .string s2, .pointer a3, .pointer a4, .int .i64 i5, .bool b6, .bool b7] T (0, 0))) :
    Calls Tryz.prog 201 #[.slice (some ⟨V, 0, none⟩) 1 1] w fun e w' => ∃ m, e = .returned (.agg #[.pointer (some ⟨m, 0, none⟩), .pointer (some ⟨m, 0, none⟩)]) ∧ w.heap.size ≤ m ∧ m < w'.heap.size ∧ Hid (w'.heap[m]? = some (.cells (memCells ⟨m, p, kf, kl⟩ none none).toArray 179 (0, 0))) ∧ Below w.heap.size w w' := by
  have hVl : V < w.heap.size := (Array.getElem?_eq_some_iff.1 h).1
  obtain ⟨w2, hw2⟩ : ∃ w2, w2 = (w.alloc (.cells #[.pointer none, .pointer none] 135)).alloc (.cells #[.pointer none, .pointer none] 135) := ⟨_, rfl⟩
  have hs1 : ∀ ob, (w.alloc ob).heap.size = w.heap.size + 1 := by intro ob; simp
  have hs2 : w2.heap.size = w.heap.size + 2 := by rw [hw2]; simp
  have hb2 : Below w.heap.size w w2 := by rw [hw2]; exact ((Below.refl _ _).alloc (Nat.le_refl _) _).alloc (by simp) _
  have hV2 : w2.heap[V]? = some (.cells #[.int .i64 i0, .string s1, .string s2, .pointer a3, .pointer a4, .int .i64 i5, .bool b6, .bool b7] T (0, 0)) := (hb2.block V hVl).trans h
  have hC2 : Ch w2 (w.heap.size + 1) 0 135 [.pointer none, .pointer none] [] := ⟨trivial, ⟨by rw [hw2, ← hs1]; exact alloc_new _ _, by simp⟩, List.nodup_nil, by simp [blks]⟩
  have hA := hid (fun (w1 : World) (h1 : Ch w1 (w.heap.size + 1) 0 135 [.pointer none, .pointer none] []) => append_any (w.heap.size + 1) 0 135 [.pointer none, .pointer none] [] p kf kl w1 h1)
  rw [hpv] at hA
  have q0 : w2.cell? ⟨V, 0, none⟩ = some (.int .i64 i0) := cell_blk hV2 0 _ rfl
  have q1 : w2.cell? ⟨V, 1, none⟩ = some (.string s1) := cell_blk hV2 1 _ rfl
  have q2 : w2.cell? ⟨V, 2, none⟩ = some (.string s2) := cell_blk hV2 2 _ rfl
  have q3 : w2.cell? ⟨V, 3, none⟩ = some (.pointer a3) := cell_blk hV2 3 _ rfl
  have q4 : w2.cell? ⟨V, 4, none⟩ = some (.pointer a4) := cell_blk hV2 4 _ rfl
  have q5 : w2.cell? ⟨V, 5, none⟩ = some (.int .i64 i5) := cell_blk hV2 5 _ rfl
  have q6 : w2.cell? ⟨V, 6, none⟩ = some (.bool b6) := cell_blk hV2 6 _ rfl
  have q7 : w2.cell? ⟨V, 7, none⟩ = some (.bool b7) := cell_blk hV2 7 _ rfl
  have hCA := hid (hA.out (w2.alloc (.cells #[.int .i64 i0, .string s1, .string s2, .pointer a3, .pointer a4, .int .i64 i5, .bool b6, .bool b7] 177)) (hC2.move (fun x hx => Below.heap_alloc _ _ _ (by simp [blks] at hx; omega))))
  have hbH := hid hb2
  have hX2 : Hid (w2.heap[w.heap.size]? = some (.cells #[.pointer none, .pointer none] 135 (0, 0))) := hid (by rw [hw2, Below.heap_alloc _ _ _ (by rw [hs1]; omega)]; exact alloc_new _ _)
  have hs2H := hid hs2
  clear hC2 hV2 h hpv hA hb2 hs2
  go_enter Tryz.func201, Tryz.ntmps201
  go_wp2_with fail
  rw [← hw2]
  clear hw2 hs1
  go_loopg [8] 1 (fun k s8 wr => (k = 1 ∧ s8 = .int .i64 0 ∧ wr = w2) ∨ (k = 0 ∧ s8 = .int .i64 1 ∧ ∃ m, w.heap.size < m ∧ Ch wr (w.heap.size + 1) 0 135 [.pointer none, .pointer none] [⟨m, p, kf, kl⟩] ∧ Below w.heap.size w wr ∧ wr.heap[w.heap.size]? = some (.cells #[.pointer none, .pointer none] 135 (0, 0))))
  case atStart => exact .inl ⟨rfl, rfl, rfl⟩
  case round =>
    rcases hrel with ⟨rfl, rfl, rfl⟩ | ⟨rfl, rfl, m, hm, hC, hb, hX⟩
    · go_wp2_with fail
      refine hCA.out.mono ?_
      rintro e w3 ⟨rfl, hC3, hf3, hs3⟩
      have hall := hid (And.intro hC3 (And.intro hf3 hs3))
      clear hC3 hf3 hs3
      go_wp2
      go_roundg 0
      case rel =>
        refine .inr ⟨rfl, rfl, _, ?_, hall.out.1, ?_, ?_⟩
        · have := hs2H.out; simp; omega
        · have hfb := hall.out.2.1.below (B := w.heap.size) (by have := hs2H.out; simp; omega) (fun x hx => by simp [blks] at hx; omega)
          exact (hbH.out.alloc (by have := hs2H.out; omega) _).trans hfb
        · rw [hall.out.2.1.block _ (by have := hs2H.out; simp; omega) (by simp [blks]), Below.heap_alloc _ _ _ (by have := hs2H.out; omega)]
          exact hX2.out
      case measure => simp
    · have hall := hid (And.intro hC hb)
      have hcc := hC.hdr.1
      have k0 : wr.cell? ⟨w.heap.size + 1, 0, none⟩ = some (.pointer (some ⟨m, 0, none⟩)) := cell_blk hcc 0 _ rfl
      have k1 : wr.cell? ⟨w.heap.size + 1, 1, none⟩ = some (.pointer (some ⟨m, 0, none⟩)) := cell_blk hcc 1 _ rfl
      have x0 : wr.cell? ⟨w.heap.size, 0, none⟩ = some (.pointer none) := cell_blk hX 0 _ rfl
      have x1 : wr.cell? ⟨w.heap.size, 1, none⟩ = some (.pointer none) := cell_blk hX 1 _ rfl
      have xf := free_blk hX
      have hXH := hid hX
      clear hC hb hcc hX
      go_wp2
      have hms : m ≠ w.heap.size := by omega
      have hml : m < wr.heap.size := hall.out.1.mlt m (by simp [blks])
      refine bodyPost_ret (v := .agg #[.pointer (some ⟨m, 0, none⟩), .pointer (some ⟨m, 0, none⟩)]) (by simp [results, Tryz.results201, go_sem, x0, x1]) rfl ⟨m, rfl, Nat.le_of_lt hm, by simp; exact hml, hid ?_, (hall.out.2.setCell (Nat.le_refl _) _).setCell (Nat.le_refl _) _⟩
      have h0 := hall.out.1.seg.1
      have hfr : Fr [w.heap.size] wr ((wr.setCell ⟨w.heap.size, 0, none⟩ (.pointer (some ⟨m, 0, none⟩))).setCell ⟨w.heap.size, 1, none⟩ (.pointer (some ⟨m, 0, none⟩))) := (((Fr.refl _ wr).setCell _ (.inl (by simp)) _).setCell _ (.inl (by simp)) _)
      rw [hfr.block m hml (by simp [hms])]
      exact h0
set_option maxRecDepth 100000 in
set_option maxHeartbeats 4000000 in
theorem layAddress_some (C : Nat) (ct : ByteArray) (f k n : Nat) (ms : List Mem) (os : List Opn) (sa : Option Addr) (sc : Nat) (A : Nat → Prop) (w : World) (h : Cut C ct f k ms os sa sc A w) (hk : k < ct.size) (hok : S.angOk (ct.data.toList.drop k) = true) (hn : (S.angAddr (ct.data.toList.drop k)).length = n) (hkn : k + (n + 2) ≤ ct.size) :
    Calls Tryz.prog 156 #[.pointer (some ⟨C, 0, none⟩)] w fun e w' => ∃ m1 m2 m3, e = .returned (.bool true) ∧ w.heap.size ≤ m1 ∧ w.heap.size ≤ m2 ∧ w.heap.size ≤ m3 ∧ Cut C ct (k + (n + 2)) (k + (n + 2)) ((ms ++ skipMs ct f k m1) ++ [⟨m2, linkPt (S.angAddr (ct.data.toList.drop k)), some ⟨m3, 0, none⟩, some ⟨m3, 0, none⟩⟩]) os sa sc (fun x => A x ∨ x = m3) w' ∧ Fr (C :: blks ms) w w' := by
  have hcl := h.lt
  have hcc := h.cells
  have hsm := h.small
  have hR := hid (rest_any C ct f k _ _ _ w hcc (Nat.le_of_lt hk))
  have hz : (ct.extract k ct.size).size = ct.size - k := by simp
  obtain ⟨t, ht⟩ : ∃ t, S.angAddr (ct.data.toList.drop k) = t := ⟨_, rfl⟩
  rw [ht] at hn ⊢
  have hAn : Hid (∀ wx, Calls Tryz.prog 200 #[.string (ct.extract k ct.size)] wx fun e w' => ∃ r : ByteArray, e = .returned (.tuple #[.string r, .bool true]) ∧ Hid (r.data.toList = t) ∧ Below wx.heap.size wx w') := hid (fun wx => by
    have := angled_any (ct.extract k ct.size) wx (by omega) (by omega)
    rw [ext_rest, hok, ht] at this
    exact this.mono (fun e w' ⟨r, h1, h2, h3⟩ => ⟨r, h1, hid (h2.out rfl), h3⟩))
  have hL := hid (fun (wx : World) (m3 : Nat) (h1 : w.heap.size ≤ m3) (h2 : m3 < wx.heap.size) (hx : wx.heap[m3]? = some (.cells (memCells ⟨m3, textPt t, none, none⟩ none none).toArray 179 (0, 0))) (hb : Below w.heap.size w wx) =>
    lay_any C ct f k (n + 2) ms os sa sc (fun x => A x ∨ x = m3) (linkPt t) (some ⟨m3, 0, none⟩) (some ⟨m3, 0, none⟩) wx (h.more hb (fun x hx => .inl hx) (fun x hx => by rcases hx with hx | hx; exact .inl hx; exact .inr ⟨by omega, by omega⟩)) hkn (by simp [linkPt, Pt.text]) (by simp [linkPt, Pt.rs])
      (KRep.cons ⟨m3, textPt t, none, none⟩ none none [] (.inr rfl) hx .nil .nil))
  clear h hcc ht
  go_enter Tryz.func156, Tryz.ntmps156
  go_wp2_with fail
  refine hR.out.mono ?_
  rintro e w' ⟨rfl, rfl⟩
  go_wp2_with fail
  refine (hAn.out _).mono ?_
  rintro e w1 ⟨r, rfl, hr, hb1⟩
  have hrs : r.size = n := by rw [← S.length_data, hr.out]; exact hn
  have hrb : S.B t = r := by rw [← hr.out, S.B_data]
  have hOf := hid (fun (wx : World) (V : Nat) (hV : wx.heap[V]? = some (.cells #[.int .i64 8, .string ⟨#[]⟩, .string r, .pointer none, .pointer none, .int .i64 0, .bool false, .bool false] 177 (0, 0))) => of_one V (textPt t) none none wx 8 0 ⟨#[]⟩ r none none false false (by rw [← hrb]; rfl) _ hV)
  obtain ⟨W, hW⟩ : ∃ W, W = ((w1.alloc (.cells #[.int .i64 8, .string ⟨#[]⟩, .string r, .pointer none, .pointer none, .int .i64 0, .bool false, .bool false] 177)).alloc (.cells #[.int .i64 8, .string ⟨#[]⟩, .string r, .pointer none, .pointer none, .int .i64 0, .bool false, .bool false] 177)) := ⟨_, rfl⟩
  have hs1 : ∀ ob, (w1.alloc ob).heap.size = w1.heap.size + 1 := by intro ob; simp
  have hWb : Below w.heap.size w W := by rw [hW]; exact ((((Below.refl _ w).drew).trans hb1).alloc hb1.size _).alloc (by have := hb1.size; simp; exact Nat.le_succ_of_le this) _
  have hOW := hid (hOf.out W (w1.heap.size + 1) (by rw [hW, ← hs1]; exact alloc_new _ _))
  have hbH := hid hWb
  clear hWb hb1 hOf hs1
  go_wp2_with fail
  rw [← hW]
  clear hW
  refine hOW.out.mono ?_
  rintro e w3 ⟨m3, rfl, hm3, hm3l, hx3, hb3⟩
  have hzW : w.heap.size ≤ W.heap.size := hbH.out.size
  have hL3 := hid (hL.out w3 m3 (by omega) hm3l hx3.out (hbH.out.trans (hb3.mono hzW)))
  rw [show partV (linkPt t) (some ⟨m3, 0, none⟩) (some ⟨m3, 0, none⟩) = .agg #[.int .i64 12, .string r, .string ⟨#[]⟩, .pointer (some ⟨m3, 0, none⟩), .pointer (some ⟨m3, 0, none⟩), .int .i64 0, .bool false, .bool false] by rw [← hrb]; rfl, show ((n + 2 : Nat) : Int) = (n : Int) + 2 by omega] at hL3
  have hb3H := hid (hbH.out.trans (hb3.mono hzW))
  clear hb3 hx3
  go_wp2_with fail
  refine hL3.out.mono ?_
  rintro e w4 ⟨m1, m2, rfl, hm1, hm2, hC4, hf4⟩
  have hall := hid (And.intro hC4 hf4)
  clear hC4 hf4
  go_wp2
  go_ret
  have hzz := hb3H.out.size
  exact ⟨m1, m2, m3, rfl, Nat.le_trans hzz hm1, Nat.le_trans hzz hm2, Nat.le_trans hzW hm3, hall.out.1, (Fr.ofBelow hb3H.out).trans hall.out.2 (fun x hx => .inl hx)⟩

set_option maxRecDepth 100000 in
set_option maxHeartbeats 4000000 in
theorem layAddress_none (C : Nat) (ct : ByteArray) (f k : Nat) (x3 x4 x5 : Value) (w : World) (h : w.heap[C]? = some (.cells [.string ct, .int .i64 (f : Nat), .int .i64 (k : Nat), x3, x4, x5].toArray 168 (0, 0))) (hsm : ct.size ≤ 1000000) (hk : k < ct.size) (hok : S.angOk (ct.data.toList.drop k) = false) :
    Calls Tryz.prog 156 #[.pointer (some ⟨C, 0, none⟩)] w fun e w' => e = .returned (.bool false) ∧ Below w.heap.size w w' := by
  have hR := hid (rest_any C ct f k _ _ _ w h (Nat.le_of_lt hk))
  have hz : (ct.extract k ct.size).size = ct.size - k := by simp
  have hAn : Hid (∀ wx, Calls Tryz.prog 200 #[.string (ct.extract k ct.size)] wx fun e w' => ∃ r : ByteArray, e = .returned (.tuple #[.string r, .bool false]) ∧ Below wx.heap.size wx w') := hid (fun wx => by
    have := angled_any (ct.extract k ct.size) wx (by omega) (by omega)
    rw [ext_rest, hok] at this
    exact this.mono (fun e w' ⟨r, h1, h2, h3⟩ => ⟨r, h1, h3⟩))
  clear h
  go_enter Tryz.func156, Tryz.ntmps156
  go_wp2_with fail
  refine hR.out.mono ?_
  rintro e w' ⟨rfl, rfl⟩
  go_wp2_with fail
  refine (hAn.out _).mono ?_
  rintro e w1 ⟨r, rfl, hb1⟩
  have hbH := hid hb1
  clear hb1
  go_wp2
  go_ret
  exact ⟨rfl, (Below.refl _ w).drew.trans hbH.out⟩

end Go.Proofs.YtlojgpkajkedeaaGreatDoor
