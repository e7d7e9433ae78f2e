import Derived.Test.YtlojgpkajkedeaaGreatDoorPU
/- A node, as the statement writes it. -/
namespace Go.Proofs.YtlojgpkajkedeaaGreatDoor
open Go.RowKit

theorem B_of {x : ByteArray} {l : List UInt8} (h : x.data.toList = l) : x = S.B l := by rw [← h]; exact (S.B_data x).symm
theorem mem_tw (f : UInt8 → Bool) (l : List UInt8) (c : UInt8) (h : c ∈ l.takeWhile f) : f c = true := by
  induction l with
  | nil => simp at h
  | cons x r ih =>
    simp only [List.takeWhile_cons] at h
    split at h
    · rename_i hx
      rcases List.mem_cons.1 h with rfl | h
      · exact hx
      · exact ih h
    · simp at h
theorem take_while_get (f : UInt8 → Bool) (l : List UInt8) (j : Nat) (h : j < (l.takeWhile f).length) : (l.takeWhile f)[j]? = l[j]? := by
  induction l generalizing j with
  | nil => simp at h
  | cons x r ih =>
    simp only [List.takeWhile_cons] at h ⊢
    split at h
    · rename_i hx
      rw [if_pos hx]
      cases j with
      | zero => rfl
      | succ j => simpa using ih j (by simpa using h)
    · simp at h
theorem take_while_take (f : UInt8 → Bool) (l : List UInt8) : l.take (l.takeWhile f).length = l.takeWhile f := by
  induction l with
  | nil => rfl
  | cons x r ih =>
    simp only [List.takeWhile_cons]
    split
    · simp [ih]
    · rfl
theorem take_while_end (f : UInt8 → Bool) (l : List UInt8) (c : UInt8) (h : l[(l.takeWhile f).length]? = some c) : f c = false := by
  induction l with
  | nil => simp at h
  | cons x r ih =>
    simp only [List.takeWhile_cons] at h
    split at h
    · exact ih (by simpa using h)
    · rename_i hx
      simp at h
      subst h
      simpa using hx
theorem escH_ge (l : List UInt8) : l.length ≤ (S.escH l).length := by
  induction l with
  | nil => simp
  | cons b l ih =>
    rw [S.escH_cons, List.length_append, List.length_cons]
    have : 1 ≤ (S.esc1 b).length := by unfold S.esc1; split <;> (try split) <;> (try split) <;> (try split) <;> simp
    omega
mutual
def cnT : Tr → Nat
  | .mk _ _ _ _ kids => 1 + cnL kids
def cnL : List Tr → Nat
  | [] => 0
  | x :: r => cnT x + cnL r
end
mutual
theorem trNds_len : ∀ (x : Tr) (d : Int), (trNds d x).length = cnT x
  | .mk k n i t kids => by intro d; simp only [trNds, cnT, List.length_cons]; rw [trsNds_len kids (d + 1)]; omega
theorem trsNds_len : ∀ (l : List Tr) (d : Int), (trsNds d l).length = cnL l
  | [] => by intro d; rfl
  | x :: r => by intro d; simp only [trsNds, cnL, List.length_append]; rw [trNds_len x d, trsNds_len r d]
end
/-- Trees that stand in a list of nodes from a place on are written. -/
def NodesOK (ts : List Tr) : Prop := ∀ (l rest : List Nd) (a : Option Addr) (cp p : Nat) (d : Int) (tight : Bool) (w : World), NRow w a l → l.drop p = trsNds d ts ++ rest → p ≤ l.length → (∀ y, rest.head? = some y → y.depth < d) → l.length ≤ 1000000 → 0 ≤ d → d + cnL ts ≤ 3000000 → (trsHt tight ts).length ≤ 10000000 → nmL ts →
  Calls Tryz.prog 33 #[.slice a l.length cp, .int .i64 p, .int .i64 d, .bool tight] w fun e w' => e = .returned (.tuple #[.string (S.B (trsHt tight ts)), .int .i64 ((p + cnL ts : Nat) : Int)]) ∧ Below w.heap.size w w'

set_option maxRecDepth 100000 in
set_option maxHeartbeats 16000000 in
theorem node_any (k n : Int) (i t : ByteArray) (kids : List Tr) (hK : NodesOK kids) (l rest : List Nd) (a : Option Addr) (cp p : Nat) (d : Int) (tight : Bool) (w : World) (hrow : NRow w a l) (hp : l.drop p = trNds d (.mk k n i t kids) ++ rest) (hrest : ∀ y, rest.head? = some y → y.depth ≤ d) (hl : l.length ≤ 1000000) (hd0 : 0 ≤ d) (hd1 : d + cnT (.mk k n i t kids) ≤ 3000000) (hB : (trHt tight (.mk k n i t kids)).length ≤ 10000000) (hnm : nmT (.mk k n i t kids)) :
    Calls Tryz.prog 56 #[.slice a l.length cp, .int .i64 p, .bool tight] w fun e w' => e = .returned (.tuple #[.string (S.B (trHt tight (.mk k n i t kids))), .int .i64 ((p + cnT (.mk k n i t kids) : Nat) : Int)]) ∧ Below w.heap.size w w' := by
  simp only [nmT] at hnm
  simp only [cnT] at hd1 ⊢
  simp only [trNds, List.cons_append] at hp
  have hx : l[p]? = some ⟨d, k, n, i, t⟩ := by
    have := congrArg (fun z => z[0]?) hp
    simpa [List.getElem?_drop] using this
  have hpl : p < l.length := (List.getElem?_eq_some_iff.1 hx).1
  have hp1 : l.drop (p + 1) = trsNds (d + 1) kids ++ rest := by
    rw [← List.drop_drop, hp]; rfl
  obtain ⟨g, rfl, hg, hc⟩ := hrow p _ hx
  have c0 : w.cell? ⟨g, p * 5, none⟩ = some (.int .i64 d) := hc 0 _ rfl
  have c1 : w.cell? ⟨g, p * 5 + 1, none⟩ = some (.int .i64 k) := hc 1 _ rfl
  have c2 : w.cell? ⟨g, p * 5 + 2, none⟩ = some (.int .i64 n) := hc 2 _ rfl
  have c3 : w.cell? ⟨g, p * 5 + 3, none⟩ = some (.string i) := hc 3 _ rfl
  have c4 : w.cell? ⟨g, p * 5 + 4, none⟩ = some (.string t) := hc 4 _ rfl
  have hI0 : (0 : Int) ≤ (p : Int) := by omega
  have hI1 : (p : Int) < (l.length : Int) := by omega
  obtain ⟨R, hR⟩ : ∃ R, R = trHt tight (.mk k n i t kids) := ⟨_, rfl⟩
  rw [← hR] at hB ⊢
  simp only [trHt] at hR
  obtain ⟨WX, hWX⟩ : ∃ WX, WX = w.alloc (.cells #[.int .i64 d, .int .i64 k, .int .i64 n, .string i, .string t] 36) := ⟨_, rfl⟩
  have hbX : Below w.heap.size w WX := by rw [hWX]; exact (Below.refl _ _).alloc (Nat.le_refl _) _
  have hX0 : WX.heap[w.heap.size]? = some (.cells #[.int .i64 d, .int .i64 k, .int .i64 n, .string i, .string t] 36 (0, 0)) := by rw [hWX]; exact alloc_new _ _
  have hzX : w.heap.size < WX.heap.size := by rw [hWX]; simp
  have hkX : Hid (∀ w1, Below WX.heap.size WX w1 → w1.heap[w.heap.size]? = some (.cells #[.int .i64 d, .int .i64 k, .int .i64 n, .string i, .string t] 36 (0, 0))) := hid (fun w1 h => (h.block _ hzX).trans hX0)
  have x0 := cell_blk hX0 0 _ rfl
  have x1 := cell_blk hX0 1 _ rfl
  have x2 := cell_blk hX0 2 _ rfl
  have x3 := cell_blk hX0 3 _ rfl
  have x4 := cell_blk hX0 4 _ rfl
  have hfB : Hid (∀ w1, Below WX.heap.size WX w1 → Below w.heap.size w w1) := hid (fun w1 h => hbX.trans (h.mono (by omega)))
  obtain ⟨q, hq⟩ : ∃ q : Nat, q = p + 1 + cnL kids := ⟨_, rfl⟩
  have hqI : Hid (((p + (1 + cnL kids) : Nat) : Int) = (q : Int)) := hid (by rw [hq]; omega)
  rw [hqI.out]
  have hwX := hid hWX
  have hRH := hid hR
  clear hWX
  rcases Classical.em (k = 13) with h13 | h13
  · subst h13
    rw [if_pos rfl] at hR
    obtain ⟨pl, hpl2⟩ : ∃ pl, pl = plNs (trsNds (d + 1) kids) := ⟨_, rfl⟩
    have hpl3 : plNs (trsNds 0 kids) = pl := by rw [hpl2]; exact plNs_trs kids 0 (d + 1)
    rw [hpl3] at hR
    have hRl := congrArg List.length hR
    simp only [List.length_append, List.length_cons, List.length_nil] at hRl
    have hple := escH_ge pl
    have hile := escH_ge i.data.toList
    rw [S.length_data] at hile
    have hPl := plainN_any l (trsNds (d + 1) kids) rest (some ⟨g, 0, none⟩) cp (p + 1) (d + 1) WX (hrow.below hbX) hp1 (by omega) (trsNds_ge kids (d + 1)) (fun y hy => by have := hrest y hy; omega) hl (by rw [← hpl2]; omega)
    rw [trsNds_len, ← hpl2, ← hq] at hPl
    have hSi := hid (safe_any i WX (by omega))
    have hSp := safe_any (S.B pl) WX (by rw [S.size_B]; omega)
    rw [S.data_B] at hSp
    have hSpH := hid hSp
    obtain ⟨ei, hei⟩ : ∃ e, S.B (S.escH i.data.toList) = e := ⟨_, rfl⟩
    obtain ⟨ep, hep⟩ : ∃ e, S.B (S.escH pl) = e := ⟨_, rfl⟩
    have hei2 : ei.size ≤ 10000000 := by rw [← hei, S.size_B]; omega
    have hep2 : ep.size ≤ 10000000 := by rw [← hep, S.size_B]; omega
    have hpp : S.B pl = S.B pl := rfl
    have hend : Hid ((⟨#[60, 105, 109, 103, 32, 115, 114, 99, 61, 34]⟩ : ByteArray) ++ ei ++ ⟨#[34, 32, 97, 108, 116, 61, 34]⟩ ++ ep ++ ⟨#[34, 62]⟩ = S.B R) := hid (B_of (by rw [hR, ← hei, ← hep]; simp [S.data_B]))
    rw [hei] at hSi
    rw [hep] at hSpH
    have hPlH : Hid (Calls Tryz.prog 72 #[.slice (some ⟨g, 0, none⟩) l.length cp, .int .i64 ((p : Int) + 1), .int .i64 (d + 1)] WX fun e w' => e = .returned (.tuple #[.string (S.B pl), .int .i64 (q : Nat)]) ∧ w' = WX) := hid (by
      have e1 : (((p + 1 : Nat)) : Int) = (p : Int) + 1 := by omega
      rw [e1] at hPl; exact hPl)
    clear hq hR hRH hPl hSp hpl2 hpl3 hRl hple hile hK hrow hc hx hp hp1 hrest hX0 hbX hkX hei hep
    go_enter Tryz.func56, Tryz.ntmps56
    go_wp2_with fail
    rw [← hwX.out]
    refine hPlH.out.mono ?_
    rintro e w1 ⟨rfl, rfl⟩
    go_wp2_with fail
    refine hSi.out.mono ?_
    rintro e w1 ⟨rfl, rfl⟩
    go_wp2_with fail
    refine hSpH.out.mono ?_
    rintro e w1 ⟨rfl, rfl⟩
    go_wp2
    go_ret2
    exact ⟨by rw [← hend.out]; rfl, hfB.out _ (Below.refl _ _)⟩
  rw [if_neg h13] at hR
  obtain ⟨s, hs⟩ : ∃ s, s = trsHt (tiT k t tight) kids := ⟨_, rfl⟩
  rw [← hs] at hR
  have hRl := congrArg List.length hR
  simp only [List.length_append] at hRl
  obtain ⟨sB, hsB⟩ : ∃ sB, sB = S.B s := ⟨_, rfl⟩
  have hsz : sB.size ≤ 10000000 := by rw [hsB, S.size_B]; omega
  have hsD : Hid (sB.data.toList = s) := hid (by rw [hsB, S.data_B])
  have hCh : Hid (∀ ti, ti = tiT k t tight → Calls Tryz.prog 33 #[.slice (some ⟨g, 0, none⟩) l.length cp, .int .i64 ((p : Int) + 1), .int .i64 (d + 1), .bool ti] WX fun e w' => e = .returned (.tuple #[.string sB, .int .i64 (q : Nat)]) ∧ Below WX.heap.size WX w') := hid (fun ti hti => by
    have := hK l rest (some ⟨g, 0, none⟩) cp (p + 1) (d + 1) ti WX (hrow.below hbX) hp1 (by omega) (fun y hy => by have := hrest y hy; omega) hl (by omega) (by omega) (by rw [hti, ← hs]; omega) hnm.2.2.2
    have e1 : (((p + 1 : Nat)) : Int) = (p : Int) + 1 := by omega
    rw [e1, hti, ← hs, ← hsB, ← hq] at this
    rw [hti]
    exact this)
  have hne13 : (k == 13) = false := by rw [beq_eq_false_iff_ne]; exact h13
  have hnk := hnm.1
  have hn1 := hnm.2.1
  have hn2 := hnm.2.2.1
  clear hK hrow hc hx hp hp1 hrest hX0 hbX hnm hRH hsB hq
  rcases Classical.em (k = 1) with h1 | h1
  · subst h1
    cases tight
    · have hC1 := hid (hCh.out false (rfl))
      have hend : Hid ((⟨#[60, 112, 62]⟩ : ByteArray) ++ sB ++ (⟨#[60, 47, 112, 62, 10]⟩ : ByteArray) = S.B R) := hid (B_of (by rw [hR]; simp [hsD.out, opT, clT]))
      clear hR hRl hs h13
      go_enter Tryz.func56, Tryz.ntmps56
      go_wp2_with fail
      rw [← hwX.out]
      refine hC1.out.mono ?_
      rintro e w1 ⟨rfl, g1⟩
      have y1 := hkX.out w1 g1
      have y1_0 := cell_blk y1 0 _ rfl
      have y1_1 := cell_blk y1 1 _ rfl
      have y1_2 := cell_blk y1 2 _ rfl
      have y1_3 := cell_blk y1 3 _ rfl
      have y1_4 := cell_blk y1 4 _ rfl
      have G1 := hid (hfB.out w1 g1)
      have K1 := hid g1
      clear g1 y1
      go_wp2
      go_ret2
      exact ⟨by rw [← hend.out]; rfl, G1.out⟩
    · have hC1 := hid (hCh.out false (rfl))
      have hend : Hid ((⟨#[]⟩ : ByteArray) ++ sB ++ (⟨#[10]⟩ : ByteArray) = S.B R) := hid (B_of (by rw [hR]; simp [hsD.out, opT, clT]))
      clear hR hRl hs h13
      go_enter Tryz.func56, Tryz.ntmps56
      go_wp2_with fail
      rw [← hwX.out]
      refine hC1.out.mono ?_
      rintro e w1 ⟨rfl, g1⟩
      have y1 := hkX.out w1 g1
      have y1_0 := cell_blk y1 0 _ rfl
      have y1_1 := cell_blk y1 1 _ rfl
      have y1_2 := cell_blk y1 2 _ rfl
      have y1_3 := cell_blk y1 3 _ rfl
      have y1_4 := cell_blk y1 4 _ rfl
      have G1 := hid (hfB.out w1 g1)
      have K1 := hid g1
      clear g1 y1
      go_wp2
      go_ret2
      exact ⟨by rw [← hend.out]; rfl, G1.out⟩
  rcases Classical.em (k = 2) with h2 | h2
  · subst h2
    obtain ⟨m, hm⟩ : ∃ m : Nat, n = (m : Int) := ⟨n.toNat, by have := hnk rfl; omega⟩
    subst hm
    have hC1 := hid (hCh.out false rfl)
    obtain ⟨dg, hdg⟩ : ∃ dg, S.B (Lib.decDigits m) = dg := ⟨_, rfl⟩
    have hdz : dg.size ≤ 10000000 := by
      rw [← hdg, S.size_B]
      have : (opT 2 m i t tight).length ≤ 10000000 := by omega
      simp only [opT] at this
      rw [if_neg (by decide), if_pos (by decide)] at this
      simp only [List.length_append, Int.toNat_natCast] at this
      omega
    have hDg : Hid (∀ wx, Calls Tryz.prog 74 #[.int .i64 (m : Nat)] wx fun e w' => e = .returned (.string dg) ∧ Below wx.heap.size wx w') := hid (fun wx => by
      have := digits_any m wx (by omega)
      rw [hdg] at this; exact this)
    have hend : Hid ((⟨#[60, 104]⟩ : ByteArray) ++ dg ++ ⟨#[62]⟩ ++ sB ++ (⟨#[60, 47, 104]⟩ ++ dg ++ ⟨#[62, 10]⟩) = S.B R) := hid (B_of (by rw [hR, ← hdg]; simp [S.data_B, hsD.out, opT, clT]))
    clear hR hRl hs h13 hdg
    go_enter Tryz.func56, Tryz.ntmps56
    go_wp2_with fail
    rw [← hwX.out]
    refine hC1.out.mono ?_
    rintro e w1 ⟨rfl, g1⟩
    have y1 := hkX.out w1 g1
    have y1_0 := cell_blk y1 0 _ rfl
    have y1_1 := cell_blk y1 1 _ rfl
    have y1_2 := cell_blk y1 2 _ rfl
    have y1_3 := cell_blk y1 3 _ rfl
    have y1_4 := cell_blk y1 4 _ rfl
    have G1 := hid (hfB.out w1 g1)
    have K1 := hid g1
    clear g1 y1
    go_wp2_with fail
    refine (hDg.out w1).mono ?_
    rintro e w2 ⟨rfl, g2⟩
    have K2 := hid (Below.trans K1.out (g2.mono K1.out.size))
    have y2 := hkX.out w2 K2.out
    have y2_0 := cell_blk y2 0 _ rfl
    have y2_1 := cell_blk y2 1 _ rfl
    have y2_2 := cell_blk y2 2 _ rfl
    have y2_3 := cell_blk y2 3 _ rfl
    have y2_4 := cell_blk y2 4 _ rfl
    have G2 := hid (hfB.out w2 K2.out)
    clear g2 y2
    go_wp2_with fail
    refine (hDg.out w2).mono ?_
    rintro e w3 ⟨rfl, g3⟩
    have K3 := hid (Below.trans K2.out (g3.mono K2.out.size))
    have y3 := hkX.out w3 K3.out
    have y3_0 := cell_blk y3 0 _ rfl
    have y3_1 := cell_blk y3 1 _ rfl
    have y3_2 := cell_blk y3 2 _ rfl
    have y3_3 := cell_blk y3 3 _ rfl
    have y3_4 := cell_blk y3 4 _ rfl
    have G3 := hid (hfB.out w3 K3.out)
    clear g3 y3
    go_wp2
    go_ret2
    exact ⟨by rw [← hend.out]; rfl, G3.out⟩
  rcases Classical.em (k = 3) with h3 | h3
  · subst h3
    have hC1 := hid (hCh.out false rfl)
    obtain ⟨wd, hwd⟩ : ∃ wd, i.data.toList.takeWhile (fun c => c != 32) = wd := ⟨_, rfl⟩
    have hwi : wd.length ≤ i.size := by
      rw [← hwd, ← S.length_data]
      exact (List.takeWhile_sublist _).length_le
    have hcl : clT 3 n t tight = S.escH t.data.toList ++ [60, 47, 99, 111, 100, 101, 62, 60, 47, 112, 114, 101, 62, 10] := rfl
    have hop : opT 3 n i t tight = (if wd = [] then [60, 112, 114, 101, 62, 60, 99, 111, 100, 101, 62] else [60, 112, 114, 101, 62, 60, 99, 111, 100, 101, 32, 99, 108, 97, 115, 115, 61, 34] ++ S.escH wd ++ [34, 62]) := by rw [← hwd]; rfl
    rw [hcl, hop] at hR hRl
    have hge := escH_ge t.data.toList
    rw [S.length_data] at hge
    have hge2 := escH_ge wd
    simp only [List.length_append] at hRl
    obtain ⟨et, het⟩ : ∃ e, S.B (S.escH t.data.toList) = e := ⟨_, rfl⟩
    have hez : et.size ≤ 10000000 := by rw [← het, S.size_B]; omega
    have hSt : Hid (∀ wx, Calls Tryz.prog 73 #[.string t] wx fun e w' => e = .returned (.string et) ∧ w' = wx) := hid (fun wx => by
      have := safe_any t wx (by omega)
      rw [het] at this; exact this)
    have hwl : wd.length ≤ 10000000 := by
      by_cases h : wd = []
      · rw [h]; simp
      · rw [if_neg h] at hRl
        simp only [List.length_append] at hRl
        omega
    obtain ⟨ew, hew⟩ : ∃ e, S.B (S.escH wd) = e := ⟨_, rfl⟩
    have hSw : Hid (∀ x : ByteArray, x.data.toList = wd → ∀ wx, Calls Tryz.prog 73 #[.string x] wx fun e w' => e = .returned (.string ew) ∧ w' = wx) := hid (fun x hx wx => by
      have := safe_any x wx (by rw [← S.length_data, hx]; exact hwl)
      rw [hx, hew] at this; exact this)
    have hewz : wd ≠ [] → ew.size ≤ 10000000 := fun h => by
      rw [if_neg h] at hRl
      simp only [List.length_append] at hRl
      rw [← hew, S.size_B]; omega
    have hend0 : Hid (wd = [] → (⟨#[60, 112, 114, 101, 62, 60, 99, 111, 100, 101, 62]⟩ : ByteArray) ++ sB ++ (et ++ ⟨#[60, 47, 99, 111, 100, 101, 62, 60, 47, 112, 114, 101, 62, 10]⟩) = S.B R) := hid (fun h => B_of (by rw [hR, if_pos h, ← het]; simp [S.data_B, hsD.out]))
    have hend1 : Hid (wd ≠ [] → (⟨#[60, 112, 114, 101, 62, 60, 99, 111, 100, 101, 32, 99, 108, 97, 115, 115, 61, 34]⟩ : ByteArray) ++ ew ++ ⟨#[34, 62]⟩ ++ sB ++ (et ++ ⟨#[60, 47, 99, 111, 100, 101, 62, 60, 47, 112, 114, 101, 62, 10]⟩) = S.B R) := hid (fun h => B_of (by rw [hR, if_neg h, ← het, ← hew]; simp [S.data_B, hsD.out]))
    have hwdH : Hid (i.data.toList.takeWhile (fun c => c != 32) = wd) := hid hwd
    clear hR hRl hs h13 hcl hop hge hge2 het hew hwd
    go_enter Tryz.func56, Tryz.ntmps56
    go_wp2_with fail
    rw [← hwX.out]
    refine hC1.out.mono ?_
    rintro e w1 ⟨rfl, g1⟩
    have y1 := hkX.out w1 g1
    have y1_1 := cell_blk y1 1 _ rfl
    have y1_3 := cell_blk y1 3 _ rfl
    have y1_4 := cell_blk y1 4 _ rfl
    have G1 := hid (hfB.out w1 g1)
    clear g1 y1
    go_wp2
    go_loop [15] (fun c => ∃ j : Nat, j ≤ wd.length ∧ c = .int .i64 j) (fun c => wd.length - (intOf c).toNat)
    case atStart => exact ⟨0, Nat.zero_le _, rfl⟩
    case round =>
      obtain ⟨j, hj, rfl⟩ := hrel
      by_cases hlt : j < wd.length
      · have hlt2 : j < i.size := by omega
        have hne32 : i[j] ≠ 32 := by
          have h1 : wd[j]? = i.data.toList[j]? := by
            rw [← hwdH.out] at hlt ⊢
            exact take_while_get _ _ j hlt
          have h2 : i.data.toList[j]? = some i[j] := S.get_data i j hlt2
          have h3 : i[j] ∈ wd := List.mem_of_getElem? (h1.trans h2)
          rw [← hwdH.out] at h3
          have := mem_tw _ _ _ h3
          simpa using this
        have hI0 : (0 : Int) ≤ (j : Int) := by omega
        have hI2 : (j : Int) < (i.size : Int) := by omega
        have hb : (((i[j].toNat : Nat) : Int) != 32) = true := by
          have h4 : (((i[j].toNat : Nat) : Int) == 32) = false := by rw [beq_eq_false_iff_ne]; intro e; exact hne32 (UInt8.toNat_inj.1 (Int.ofNat_inj.1 e))
          rw [bne, h4]; rfl
        have hb2 : (((i[j].toNat : Nat) : Int) == 32) = false := by rw [beq_eq_false_iff_ne]; intro e; exact hne32 (UInt8.toNat_inj.1 (Int.ofNat_inj.1 e))
        have hbyte : i[j].toNat < 256 := i[j].toNat_lt
        clear hne32
        go_wp2
        go_round
        case rel => exact ⟨j + 1, by omega, by go_num⟩
        case measure => simp [intOf]; omega
      · have hje : j = wd.length := by omega
        have hI0 : (0 : Int) ≤ (j : Int) := by omega
        have hI3 : (j : Int) ≤ (i.size : Int) := by omega
        have hext : Hid ((i.extract 0 j).data.toList = wd) := hid (by
          rw [S.extract_data, List.drop_zero, Nat.sub_zero, hje, ← hwdH.out]
          exact take_while_take _ _)
        by_cases hlt2 : j < i.size
        · have heq32 : i[j] = 32 := by
            have h2 : i.data.toList[j]? = some i[j] := S.get_data i j hlt2
            have := take_while_end (fun c : UInt8 => c != 32) i.data.toList i[j] (by rw [hwdH.out, ← hje]; exact h2)
            simpa using this
          have hI2 : (j : Int) < (i.size : Int) := by omega
          have hn32 : i[j].toNat = 32 := by rw [heq32]; rfl
          clear heq32
          by_cases hw0 : wd = []
          · have hj0 : j = 0 := by rw [hje, hw0]; rfl
            have hend := hid (hend0.out hw0)
            clear hend0 hend1 hewz hext hje hw0 hwdH hlt
            subst hj0
            go_wp2_with fail
            refine (hSt.out _).mono ?_
            rintro e w2 ⟨rfl, rfl⟩
            go_wp2
            go_ret2
            exact ⟨by rw [← hend.out]; rfl, G1.out⟩
          · have hjp : (0 : Int) < (j : Int) := by
              have : 0 < wd.length := List.length_pos_iff.2 hw0
              omega
            have hend := hid (hend1.out hw0)
            have hewz2 := hewz hw0
            have hSw2 := hid (hSw.out (i.extract 0 j) hext.out)
            clear hend0 hend1 hewz hext hw0 hwdH hlt hje hSw
            go_wp2_with fail
            refine (hSw2.out _).mono ?_
            rintro e w2 ⟨rfl, rfl⟩
            go_wp2_with fail
            refine (hSt.out _).mono ?_
            rintro e w3 ⟨rfl, rfl⟩
            go_wp2
            go_ret2
            exact ⟨by rw [← hend.out]; rfl, G1.out⟩
        · have hI2 : ¬ (j : Int) < (i.size : Int) := by omega
          have hI4 : decide ((j : Int) < (i.size : Int)) = false := decide_eq_false hI2
          by_cases hw0 : wd = []
          · have hj0 : j = 0 := by rw [hje, hw0]; rfl
            have hend := hid (hend0.out hw0)
            clear hend0 hend1 hewz hext hje hw0 hwdH hlt
            subst hj0
            go_wp2_with fail
            refine (hSt.out _).mono ?_
            rintro e w2 ⟨rfl, rfl⟩
            go_wp2
            go_ret2
            exact ⟨by rw [← hend.out]; rfl, G1.out⟩
          · have hjp : (0 : Int) < (j : Int) := by
              have : 0 < wd.length := List.length_pos_iff.2 hw0
              omega
            have hend := hid (hend1.out hw0)
            have hewz2 := hewz hw0
            have hSw2 := hid (hSw.out (i.extract 0 j) hext.out)
            clear hend0 hend1 hewz hext hw0 hwdH hlt hje hSw
            go_wp2_with fail
            refine (hSw2.out _).mono ?_
            rintro e w2 ⟨rfl, rfl⟩
            go_wp2_with fail
            refine (hSt.out _).mono ?_
            rintro e w3 ⟨rfl, rfl⟩
            go_wp2
            go_ret2
            exact ⟨by rw [← hend.out]; rfl, G1.out⟩
  rcases Classical.em (k = 4) with h4 | h4
  · subst h4
    have hC1 := hid (hCh.out false (rfl))
    have hend : Hid ((⟨#[60, 104, 114, 62, 10]⟩ : ByteArray) ++ sB ++ (⟨#[]⟩ : ByteArray) = S.B R) := hid (B_of (by rw [hR]; simp [hsD.out, opT, clT]))
    clear hR hRl hs h13
    go_enter Tryz.func56, Tryz.ntmps56
    go_wp2_with fail
    rw [← hwX.out]
    refine hC1.out.mono ?_
    rintro e w1 ⟨rfl, g1⟩
    have y1 := hkX.out w1 g1
    have y1_0 := cell_blk y1 0 _ rfl
    have y1_1 := cell_blk y1 1 _ rfl
    have y1_2 := cell_blk y1 2 _ rfl
    have y1_3 := cell_blk y1 3 _ rfl
    have y1_4 := cell_blk y1 4 _ rfl
    have G1 := hid (hfB.out w1 g1)
    have K1 := hid g1
    clear g1 y1
    go_wp2
    go_ret2
    exact ⟨by rw [← hend.out]; rfl, G1.out⟩
  rcases Classical.em (k = 5) with h5 | h5
  · subst h5
    have hC1 := hid (hCh.out false (rfl))
    have hend : Hid ((⟨#[60, 113, 117, 111, 116, 101, 62, 10]⟩ : ByteArray) ++ sB ++ (⟨#[60, 47, 113, 117, 111, 116, 101, 62, 10]⟩ : ByteArray) = S.B R) := hid (B_of (by rw [hR]; simp [hsD.out, opT, clT]))
    clear hR hRl hs h13
    go_enter Tryz.func56, Tryz.ntmps56
    go_wp2_with fail
    rw [← hwX.out]
    refine hC1.out.mono ?_
    rintro e w1 ⟨rfl, g1⟩
    have y1 := hkX.out w1 g1
    have y1_0 := cell_blk y1 0 _ rfl
    have y1_1 := cell_blk y1 1 _ rfl
    have y1_2 := cell_blk y1 2 _ rfl
    have y1_3 := cell_blk y1 3 _ rfl
    have y1_4 := cell_blk y1 4 _ rfl
    have G1 := hid (hfB.out w1 g1)
    have K1 := hid g1
    clear g1 y1
    go_wp2
    go_ret2
    exact ⟨by rw [← hend.out]; rfl, G1.out⟩
  rcases Classical.em (k = 6) with h6 | h6
  · subst h6
    by_cases htt : t.data.toList = [116, 105, 103, 104, 116]
    · have hti : (t.toList == [116, 105, 103, 104, 116]) = true := by rw [ByteArray.toList_eq, htt]; rfl
      have hC1 := hid (hCh.out true (by unfold tiT; rw [htt]; rfl))
      have htE : t.toList = [116, 105, 103, 104, 116] := by rw [ByteArray.toList_eq, htt]
      by_cases hneg : n < 0
      · have hend : Hid ((⟨#[60, 117, 108, 62, 10]⟩ : ByteArray) ++ sB ++ ⟨#[60, 47, 117, 108, 62, 10]⟩ = S.B R) := hid (B_of (by rw [hR]; simp only [opT, clT]; rw [if_neg (by decide), if_neg (by decide), if_neg (by decide), if_neg (by decide), if_neg (by decide), if_pos (by decide), if_neg (by omega), if_neg (by omega)]; simp [hsD.out]; omega))
        have hg1 : ¬ (0 : Int) ≤ n := by omega
        clear hR hRl hs h13 hneg
        go_enter Tryz.func56, Tryz.ntmps56
        go_wp2_with fail
        rw [← hwX.out]
        refine hC1.out.mono ?_
        rintro e w1 ⟨rfl, g1⟩
        have y1 := hkX.out w1 g1
        have y1_0 := cell_blk y1 0 _ rfl
        have y1_1 := cell_blk y1 1 _ rfl
        have y1_2 := cell_blk y1 2 _ rfl
        have y1_3 := cell_blk y1 3 _ rfl
        have y1_4 := cell_blk y1 4 _ rfl
        have G1 := hid (hfB.out w1 g1)
        have K1 := hid g1
        clear g1 y1
        go_wp2
        go_ret2
        exact ⟨by rw [← hend.out]; rfl, G1.out⟩
      by_cases hone : n = 1
      · subst hone
        have hend : Hid ((⟨#[60, 111, 108, 62, 10]⟩ : ByteArray) ++ sB ++ ⟨#[60, 47, 111, 108, 62, 10]⟩ = S.B R) := hid (B_of (by rw [hR]; simp [hsD.out, opT, clT]))
        clear hR hRl hs h13 hneg
        go_enter Tryz.func56, Tryz.ntmps56
        go_wp2_with fail
        rw [← hwX.out]
        refine hC1.out.mono ?_
        rintro e w1 ⟨rfl, g1⟩
        have y1 := hkX.out w1 g1
        have y1_0 := cell_blk y1 0 _ rfl
        have y1_1 := cell_blk y1 1 _ rfl
        have y1_2 := cell_blk y1 2 _ rfl
        have y1_3 := cell_blk y1 3 _ rfl
        have y1_4 := cell_blk y1 4 _ rfl
        have G1 := hid (hfB.out w1 g1)
        have K1 := hid g1
        clear g1 y1
        go_wp2
        go_ret2
        exact ⟨by rw [← hend.out]; rfl, G1.out⟩
      obtain ⟨m, hm⟩ : ∃ m : Nat, n = (m : Int) := ⟨n.toNat, by omega⟩
      subst hm
      obtain ⟨dg, hdg⟩ : ∃ dg, S.B (Lib.decDigits m) = dg := ⟨_, rfl⟩
      have hop : opT 6 (m : Int) i t tight = [60, 111, 108, 32, 115, 116, 97, 114, 116, 61, 34] ++ Lib.decDigits m ++ [34, 62, 10] := by
        simp only [opT]
        rw [if_neg (by decide), if_neg (by decide), if_neg (by decide), if_neg (by decide), if_neg (by decide), if_pos (by decide), if_pos ⟨by omega, hone⟩, Int.toNat_natCast]
      have hcl : clT 6 (m : Int) t tight = [60, 47, 111, 108, 62, 10] := by
        simp only [clT]
        rw [if_neg (by decide), if_neg (by decide), if_neg (by decide), if_neg (by decide), if_pos (by decide), if_pos (by omega)]
      have hdz : dg.size ≤ 10000000 := by
        rw [← hdg, S.size_B]
        rw [hop] at hRl
        simp only [List.length_append] at hRl
        omega
      have hDg : Hid (∀ wx, Calls Tryz.prog 74 #[.int .i64 (m : Nat)] wx fun e w' => e = .returned (.string dg) ∧ Below wx.heap.size wx w') := hid (fun wx => by
        have := digits_any m wx (by omega)
        rw [hdg] at this; exact this)
      have hend : Hid ((⟨#[60, 111, 108, 32, 115, 116, 97, 114, 116, 61, 34]⟩ : ByteArray) ++ dg ++ ⟨#[34, 62, 10]⟩ ++ sB ++ ⟨#[60, 47, 111, 108, 62, 10]⟩ = S.B R) := hid (B_of (by rw [hR, hop, hcl, ← hdg]; simp [S.data_B, hsD.out]))
      have hg1 : (0 : Int) ≤ (m : Int) := by omega
      have hb1 : ((m : Int) == 1) = false := by rw [beq_eq_false_iff_ne]; exact hone
      have hbn1 : ((m : Int) != 1) = true := by rw [bne, hb1]; rfl
      clear hR hRl hs h13 hneg hone hop hcl hdg
      go_enter Tryz.func56, Tryz.ntmps56
      go_wp2_with fail
      rw [← hwX.out]
      refine hC1.out.mono ?_
      rintro e w1 ⟨rfl, g1⟩
      have y1 := hkX.out w1 g1
      have y1_0 := cell_blk y1 0 _ rfl
      have y1_1 := cell_blk y1 1 _ rfl
      have y1_2 := cell_blk y1 2 _ rfl
      have y1_3 := cell_blk y1 3 _ rfl
      have y1_4 := cell_blk y1 4 _ rfl
      have G1 := hid (hfB.out w1 g1)
      have K1 := hid g1
      clear g1 y1
      go_wp2_with fail
      refine (hDg.out w1).mono ?_
      rintro e w2 ⟨rfl, g2⟩
      have K2 := hid (Below.trans K1.out (g2.mono K1.out.size))
      have y2 := hkX.out w2 K2.out
      have y2_0 := cell_blk y2 0 _ rfl
      have y2_1 := cell_blk y2 1 _ rfl
      have y2_2 := cell_blk y2 2 _ rfl
      have y2_3 := cell_blk y2 3 _ rfl
      have y2_4 := cell_blk y2 4 _ rfl
      have G2 := hid (hfB.out w2 K2.out)
      clear g2 y2
      go_wp2
      go_ret2
      exact ⟨by rw [← hend.out]; rfl, G2.out⟩
    · have hti : (t.toList == [116, 105, 103, 104, 116]) = false := by rw [ByteArray.toList_eq, beq_eq_false_iff_ne]; exact htt
      have hC1 := hid (hCh.out false (by
        unfold tiT
        have : (t.data.toList == [116, 105, 103, 104, 116]) = false := by rw [beq_eq_false_iff_ne]; exact htt
        rw [this]; rfl))
      have htE : ¬ t.toList = [116, 105, 103, 104, 116] := by rw [ByteArray.toList_eq]; exact htt
      by_cases hneg : n < 0
      · have hend : Hid ((⟨#[60, 117, 108, 62, 10]⟩ : ByteArray) ++ sB ++ ⟨#[60, 47, 117, 108, 62, 10]⟩ = S.B R) := hid (B_of (by rw [hR]; simp only [opT, clT]; rw [if_neg (by decide), if_neg (by decide), if_neg (by decide), if_neg (by decide), if_neg (by decide), if_pos (by decide), if_neg (by omega), if_neg (by omega)]; simp [hsD.out]; omega))
        have hg1 : ¬ (0 : Int) ≤ n := by omega
        clear hR hRl hs h13 hneg
        go_enter Tryz.func56, Tryz.ntmps56
        go_wp2_with fail
        rw [← hwX.out]
        refine hC1.out.mono ?_
        rintro e w1 ⟨rfl, g1⟩
        have y1 := hkX.out w1 g1
        have y1_0 := cell_blk y1 0 _ rfl
        have y1_1 := cell_blk y1 1 _ rfl
        have y1_2 := cell_blk y1 2 _ rfl
        have y1_3 := cell_blk y1 3 _ rfl
        have y1_4 := cell_blk y1 4 _ rfl
        have G1 := hid (hfB.out w1 g1)
        have K1 := hid g1
        clear g1 y1
        go_wp2
        go_ret2
        exact ⟨by rw [← hend.out]; rfl, G1.out⟩
      by_cases hone : n = 1
      · subst hone
        have hend : Hid ((⟨#[60, 111, 108, 62, 10]⟩ : ByteArray) ++ sB ++ ⟨#[60, 47, 111, 108, 62, 10]⟩ = S.B R) := hid (B_of (by rw [hR]; simp [hsD.out, opT, clT]))
        clear hR hRl hs h13 hneg
        go_enter Tryz.func56, Tryz.ntmps56
        go_wp2_with fail
        rw [← hwX.out]
        refine hC1.out.mono ?_
        rintro e w1 ⟨rfl, g1⟩
        have y1 := hkX.out w1 g1
        have y1_0 := cell_blk y1 0 _ rfl
        have y1_1 := cell_blk y1 1 _ rfl
        have y1_2 := cell_blk y1 2 _ rfl
        have y1_3 := cell_blk y1 3 _ rfl
        have y1_4 := cell_blk y1 4 _ rfl
        have G1 := hid (hfB.out w1 g1)
        have K1 := hid g1
        clear g1 y1
        go_wp2
        go_ret2
        exact ⟨by rw [← hend.out]; rfl, G1.out⟩
      obtain ⟨m, hm⟩ : ∃ m : Nat, n = (m : Int) := ⟨n.toNat, by omega⟩
      subst hm
      obtain ⟨dg, hdg⟩ : ∃ dg, S.B (Lib.decDigits m) = dg := ⟨_, rfl⟩
      have hop : opT 6 (m : Int) i t tight = [60, 111, 108, 32, 115, 116, 97, 114, 116, 61, 34] ++ Lib.decDigits m ++ [34, 62, 10] := by
        simp only [opT]
        rw [if_neg (by decide), if_neg (by decide), if_neg (by decide), if_neg (by decide), if_neg (by decide), if_pos (by decide), if_pos ⟨by omega, hone⟩, Int.toNat_natCast]
      have hcl : clT 6 (m : Int) t tight = [60, 47, 111, 108, 62, 10] := by
        simp only [clT]
        rw [if_neg (by decide), if_neg (by decide), if_neg (by decide), if_neg (by decide), if_pos (by decide), if_pos (by omega)]
      have hdz : dg.size ≤ 10000000 := by
        rw [← hdg, S.size_B]
        rw [hop] at hRl
        simp only [List.length_append] at hRl
        omega
      have hDg : Hid (∀ wx, Calls Tryz.prog 74 #[.int .i64 (m : Nat)] wx fun e w' => e = .returned (.string dg) ∧ Below wx.heap.size wx w') := hid (fun wx => by
        have := digits_any m wx (by omega)
        rw [hdg] at this; exact this)
      have hend : Hid ((⟨#[60, 111, 108, 32, 115, 116, 97, 114, 116, 61, 34]⟩ : ByteArray) ++ dg ++ ⟨#[34, 62, 10]⟩ ++ sB ++ ⟨#[60, 47, 111, 108, 62, 10]⟩ = S.B R) := hid (B_of (by rw [hR, hop, hcl, ← hdg]; simp [S.data_B, hsD.out]))
      have hg1 : (0 : Int) ≤ (m : Int) := by omega
      have hb1 : ((m : Int) == 1) = false := by rw [beq_eq_false_iff_ne]; exact hone
      have hbn1 : ((m : Int) != 1) = true := by rw [bne, hb1]; rfl
      clear hR hRl hs h13 hneg hone hop hcl hdg
      go_enter Tryz.func56, Tryz.ntmps56
      go_wp2_with fail
      rw [← hwX.out]
      refine hC1.out.mono ?_
      rintro e w1 ⟨rfl, g1⟩
      have y1 := hkX.out w1 g1
      have y1_0 := cell_blk y1 0 _ rfl
      have y1_1 := cell_blk y1 1 _ rfl
      have y1_2 := cell_blk y1 2 _ rfl
      have y1_3 := cell_blk y1 3 _ rfl
      have y1_4 := cell_blk y1 4 _ rfl
      have G1 := hid (hfB.out w1 g1)
      have K1 := hid g1
      clear g1 y1
      go_wp2_with fail
      refine (hDg.out w1).mono ?_
      rintro e w2 ⟨rfl, g2⟩
      have K2 := hid (Below.trans K1.out (g2.mono K1.out.size))
      have y2 := hkX.out w2 K2.out
      have y2_0 := cell_blk y2 0 _ rfl
      have y2_1 := cell_blk y2 1 _ rfl
      have y2_2 := cell_blk y2 2 _ rfl
      have y2_3 := cell_blk y2 3 _ rfl
      have y2_4 := cell_blk y2 4 _ rfl
      have G2 := hid (hfB.out w2 K2.out)
      clear g2 y2
      go_wp2
      go_ret2
      exact ⟨by rw [← hend.out]; rfl, G2.out⟩
  rcases Classical.em (k = 7) with h7 | h7
  · subst h7
    cases tight
    · have hC1 := hid (hCh.out false (rfl))
      have hend : Hid ((⟨#[60, 108, 105, 62, 10]⟩ : ByteArray) ++ sB ++ (⟨#[60, 47, 108, 105, 62, 10]⟩ : ByteArray) = S.B R) := hid (B_of (by rw [hR]; simp [hsD.out, opT, clT]))
      clear hR hRl hs h13
      go_enter Tryz.func56, Tryz.ntmps56
      go_wp2_with fail
      rw [← hwX.out]
      refine hC1.out.mono ?_
      rintro e w1 ⟨rfl, g1⟩
      have y1 := hkX.out w1 g1
      have y1_0 := cell_blk y1 0 _ rfl
      have y1_1 := cell_blk y1 1 _ rfl
      have y1_2 := cell_blk y1 2 _ rfl
      have y1_3 := cell_blk y1 3 _ rfl
      have y1_4 := cell_blk y1 4 _ rfl
      have G1 := hid (hfB.out w1 g1)
      have K1 := hid g1
      clear g1 y1
      go_wp2
      go_ret2
      exact ⟨by rw [← hend.out]; rfl, G1.out⟩
    · have hC1 := hid (hCh.out true (rfl))
      have hend : Hid ((⟨#[60, 108, 105, 62, 10]⟩ : ByteArray) ++ sB ++ (⟨#[60, 47, 108, 105, 62, 10]⟩ : ByteArray) = S.B R) := hid (B_of (by rw [hR]; simp [hsD.out, opT, clT]))
      clear hR hRl hs h13
      go_enter Tryz.func56, Tryz.ntmps56
      go_wp2_with fail
      rw [← hwX.out]
      refine hC1.out.mono ?_
      rintro e w1 ⟨rfl, g1⟩
      have y1 := hkX.out w1 g1
      have y1_0 := cell_blk y1 0 _ rfl
      have y1_1 := cell_blk y1 1 _ rfl
      have y1_2 := cell_blk y1 2 _ rfl
      have y1_3 := cell_blk y1 3 _ rfl
      have y1_4 := cell_blk y1 4 _ rfl
      have G1 := hid (hfB.out w1 g1)
      have K1 := hid g1
      clear g1 y1
      go_wp2
      go_ret2
      exact ⟨by rw [← hend.out]; rfl, G1.out⟩
  rcases Classical.em (k = 8) with h8 | h8
  · subst h8
    have hC1 := hid (hCh.out false rfl)
    have hge := escH_ge t.data.toList
    rw [S.length_data] at hge
    have hop : (S.escH t.data.toList).length ≤ 10000000 := by
      have h5 : (opT 8 n i t tight).length ≤ 10000000 := by omega
      simp [opT] at h5
      omega
    obtain ⟨es, hes⟩ : ∃ es, S.B (S.escH t.data.toList) = es := ⟨_, rfl⟩
    have hez : es.size ≤ 10000000 := by rw [← hes, S.size_B]; exact hop
    have hSf : Hid (∀ wx, Calls Tryz.prog 73 #[.string t] wx fun e w' => e = .returned (.string es) ∧ w' = wx) := hid (fun wx => by
      have := safe_any t wx (by omega)
      rw [hes] at this; exact this)
    have hend : Hid (es ++ sB ++ (⟨#[]⟩ : ByteArray) = S.B R) := hid (B_of (by rw [hR, ← hes]; simp [S.data_B, hsD.out, opT, clT]))
    clear hR hRl hs h13 hge hop hes
    go_enter Tryz.func56, Tryz.ntmps56
    go_wp2_with fail
    rw [← hwX.out]
    refine hC1.out.mono ?_
    rintro e w1 ⟨rfl, g1⟩
    have y1 := hkX.out w1 g1
    have y1_0 := cell_blk y1 0 _ rfl
    have y1_1 := cell_blk y1 1 _ rfl
    have y1_2 := cell_blk y1 2 _ rfl
    have y1_3 := cell_blk y1 3 _ rfl
    have y1_4 := cell_blk y1 4 _ rfl
    have G1 := hid (hfB.out w1 g1)
    have K1 := hid g1
    clear g1 y1
    go_wp2_with fail
    refine (hSf.out w1).mono ?_
    rintro e w2 ⟨rfl, rfl⟩
    have G2 := G1
    have K2 := K1
    go_wp2
    go_ret2
    exact ⟨by rw [← hend.out]; rfl, G2.out⟩
  rcases Classical.em (k = 9) with h9 | h9
  · subst h9
    have hC1 := hid (hCh.out false (rfl))
    have hend : Hid ((⟨#[10]⟩ : ByteArray) ++ sB ++ (⟨#[]⟩ : ByteArray) = S.B R) := hid (B_of (by rw [hR]; simp [hsD.out, opT, clT]))
    clear hR hRl hs h13
    go_enter Tryz.func56, Tryz.ntmps56
    go_wp2_with fail
    rw [← hwX.out]
    refine hC1.out.mono ?_
    rintro e w1 ⟨rfl, g1⟩
    have y1 := hkX.out w1 g1
    have y1_0 := cell_blk y1 0 _ rfl
    have y1_1 := cell_blk y1 1 _ rfl
    have y1_2 := cell_blk y1 2 _ rfl
    have y1_3 := cell_blk y1 3 _ rfl
    have y1_4 := cell_blk y1 4 _ rfl
    have G1 := hid (hfB.out w1 g1)
    have K1 := hid g1
    clear g1 y1
    go_wp2
    go_ret2
    exact ⟨by rw [← hend.out]; rfl, G1.out⟩
  rcases Classical.em (k = 10) with h10 | h10
  · subst h10
    have hC1 := hid (hCh.out false (rfl))
    have hend : Hid ((⟨#[60, 98, 114, 62, 10]⟩ : ByteArray) ++ sB ++ (⟨#[]⟩ : ByteArray) = S.B R) := hid (B_of (by rw [hR]; simp [hsD.out, opT, clT]))
    clear hR hRl hs h13
    go_enter Tryz.func56, Tryz.ntmps56
    go_wp2_with fail
    rw [← hwX.out]
    refine hC1.out.mono ?_
    rintro e w1 ⟨rfl, g1⟩
    have y1 := hkX.out w1 g1
    have y1_0 := cell_blk y1 0 _ rfl
    have y1_1 := cell_blk y1 1 _ rfl
    have y1_2 := cell_blk y1 2 _ rfl
    have y1_3 := cell_blk y1 3 _ rfl
    have y1_4 := cell_blk y1 4 _ rfl
    have G1 := hid (hfB.out w1 g1)
    have K1 := hid g1
    clear g1 y1
    go_wp2
    go_ret2
    exact ⟨by rw [← hend.out]; rfl, G1.out⟩
  rcases Classical.em (k = 11) with h11 | h11
  · subst h11
    have hC1 := hid (hCh.out false rfl)
    have hge := escH_ge t.data.toList
    rw [S.length_data] at hge
    have hop : (S.escH t.data.toList).length ≤ 10000000 := by
      have h5 : (opT 11 n i t tight).length ≤ 10000000 := by omega
      simp [opT] at h5
      omega
    obtain ⟨es, hes⟩ : ∃ es, S.B (S.escH t.data.toList) = es := ⟨_, rfl⟩
    have hez : es.size ≤ 10000000 := by rw [← hes, S.size_B]; exact hop
    have hSf : Hid (∀ wx, Calls Tryz.prog 73 #[.string t] wx fun e w' => e = .returned (.string es) ∧ w' = wx) := hid (fun wx => by
      have := safe_any t wx (by omega)
      rw [hes] at this; exact this)
    have hend : Hid ((⟨#[60, 99, 111, 100, 101, 62]⟩ : ByteArray) ++ es ++ sB ++ (⟨#[60, 47, 99, 111, 100, 101, 62]⟩ : ByteArray) = S.B R) := hid (B_of (by rw [hR, ← hes]; simp [S.data_B, hsD.out, opT, clT]))
    clear hR hRl hs h13 hge hop hes
    go_enter Tryz.func56, Tryz.ntmps56
    go_wp2_with fail
    rw [← hwX.out]
    refine hC1.out.mono ?_
    rintro e w1 ⟨rfl, g1⟩
    have y1 := hkX.out w1 g1
    have y1_0 := cell_blk y1 0 _ rfl
    have y1_1 := cell_blk y1 1 _ rfl
    have y1_2 := cell_blk y1 2 _ rfl
    have y1_3 := cell_blk y1 3 _ rfl
    have y1_4 := cell_blk y1 4 _ rfl
    have G1 := hid (hfB.out w1 g1)
    have K1 := hid g1
    clear g1 y1
    go_wp2_with fail
    refine (hSf.out w1).mono ?_
    rintro e w2 ⟨rfl, rfl⟩
    have G2 := G1
    have K2 := K1
    go_wp2
    go_ret2
    exact ⟨by rw [← hend.out]; rfl, G2.out⟩
  rcases Classical.em (k = 12) with h12 | h12
  · subst h12
    have hC1 := hid (hCh.out false rfl)
    have hge := escH_ge i.data.toList
    rw [S.length_data] at hge
    have hop : (S.escH i.data.toList).length ≤ 10000000 := by
      have h5 : (opT 12 n i t tight).length ≤ 10000000 := by omega
      simp [opT] at h5
      omega
    obtain ⟨es, hes⟩ : ∃ es, S.B (S.escH i.data.toList) = es := ⟨_, rfl⟩
    have hez : es.size ≤ 10000000 := by rw [← hes, S.size_B]; exact hop
    have hSf : Hid (∀ wx, Calls Tryz.prog 73 #[.string i] wx fun e w' => e = .returned (.string es) ∧ w' = wx) := hid (fun wx => by
      have := safe_any i wx (by omega)
      rw [hes] at this; exact this)
    have hend : Hid ((⟨#[60, 97, 32, 104, 114, 101, 102, 61, 34]⟩ : ByteArray) ++ es ++ (⟨#[34, 62]⟩ : ByteArray) ++ sB ++ (⟨#[60, 47, 97, 62]⟩ : ByteArray) = S.B R) := hid (B_of (by rw [hR, ← hes]; simp [S.data_B, hsD.out, opT, clT]))
    clear hR hRl hs h13 hge hop hes
    go_enter Tryz.func56, Tryz.ntmps56
    go_wp2_with fail
    rw [← hwX.out]
    refine hC1.out.mono ?_
    rintro e w1 ⟨rfl, g1⟩
    have y1 := hkX.out w1 g1
    have y1_0 := cell_blk y1 0 _ rfl
    have y1_1 := cell_blk y1 1 _ rfl
    have y1_2 := cell_blk y1 2 _ rfl
    have y1_3 := cell_blk y1 3 _ rfl
    have y1_4 := cell_blk y1 4 _ rfl
    have G1 := hid (hfB.out w1 g1)
    have K1 := hid g1
    clear g1 y1
    go_wp2_with fail
    refine (hSf.out w1).mono ?_
    rintro e w2 ⟨rfl, rfl⟩
    have G2 := G1
    have K2 := K1
    go_wp2
    go_ret2
    exact ⟨by rw [← hend.out]; rfl, G2.out⟩
  rcases Classical.em (k = 14) with h14 | h14
  · subst h14
    have hC1 := hid (hCh.out false (rfl))
    have hend : Hid ((⟨#[60, 101, 109, 62]⟩ : ByteArray) ++ sB ++ (⟨#[60, 47, 101, 109, 62]⟩ : ByteArray) = S.B R) := hid (B_of (by rw [hR]; simp [hsD.out, opT, clT]))
    clear hR hRl hs h13
    go_enter Tryz.func56, Tryz.ntmps56
    go_wp2_with fail
    rw [← hwX.out]
    refine hC1.out.mono ?_
    rintro e w1 ⟨rfl, g1⟩
    have y1 := hkX.out w1 g1
    have y1_0 := cell_blk y1 0 _ rfl
    have y1_1 := cell_blk y1 1 _ rfl
    have y1_2 := cell_blk y1 2 _ rfl
    have y1_3 := cell_blk y1 3 _ rfl
    have y1_4 := cell_blk y1 4 _ rfl
    have G1 := hid (hfB.out w1 g1)
    have K1 := hid g1
    clear g1 y1
    go_wp2
    go_ret2
    exact ⟨by rw [← hend.out]; rfl, G1.out⟩
  rcases Classical.em (k = 15) with h15 | h15
  · subst h15
    have hC1 := hid (hCh.out false (rfl))
    have hend : Hid ((⟨#[60, 115, 116, 114, 111, 110, 103, 62]⟩ : ByteArray) ++ sB ++ (⟨#[60, 47, 115, 116, 114, 111, 110, 103, 62]⟩ : ByteArray) = S.B R) := hid (B_of (by rw [hR]; simp [hsD.out, opT, clT]))
    clear hR hRl hs h13
    go_enter Tryz.func56, Tryz.ntmps56
    go_wp2_with fail
    rw [← hwX.out]
    refine hC1.out.mono ?_
    rintro e w1 ⟨rfl, g1⟩
    have y1 := hkX.out w1 g1
    have y1_0 := cell_blk y1 0 _ rfl
    have y1_1 := cell_blk y1 1 _ rfl
    have y1_2 := cell_blk y1 2 _ rfl
    have y1_3 := cell_blk y1 3 _ rfl
    have y1_4 := cell_blk y1 4 _ rfl
    have G1 := hid (hfB.out w1 g1)
    have K1 := hid g1
    clear g1 y1
    go_wp2
    go_ret2
    exact ⟨by rw [← hend.out]; rfl, G1.out⟩
  · have hC1 := hid (hCh.out false (by unfold tiT; simp [h6, h7]))
    have hend : Hid ((⟨#[]⟩ : ByteArray) ++ sB ++ (⟨#[]⟩ : ByteArray) = S.B R) := hid (B_of (by rw [hR]; simp [hsD.out, opT, clT, h1, h2, h3, h4, h5, h6, h7, h8, h9, h10, h11, h12, h14, h15]))
    have e1 : (k == 1) = false := by rw [beq_eq_false_iff_ne]; exact h1
    have e2 : (k == 2) = false := by rw [beq_eq_false_iff_ne]; exact h2
    have e3 : (k == 3) = false := by rw [beq_eq_false_iff_ne]; exact h3
    have e4 : (k == 4) = false := by rw [beq_eq_false_iff_ne]; exact h4
    have e5 : (k == 5) = false := by rw [beq_eq_false_iff_ne]; exact h5
    have e6 : (k == 6) = false := by rw [beq_eq_false_iff_ne]; exact h6
    have e7 : (k == 7) = false := by rw [beq_eq_false_iff_ne]; exact h7
    have e8 : (k == 8) = false := by rw [beq_eq_false_iff_ne]; exact h8
    have e9 : (k == 9) = false := by rw [beq_eq_false_iff_ne]; exact h9
    have e10 : (k == 10) = false := by rw [beq_eq_false_iff_ne]; exact h10
    have e11 : (k == 11) = false := by rw [beq_eq_false_iff_ne]; exact h11
    have e12 : (k == 12) = false := by rw [beq_eq_false_iff_ne]; exact h12
    have e14 : (k == 14) = false := by rw [beq_eq_false_iff_ne]; exact h14
    have e15 : (k == 15) = false := by rw [beq_eq_false_iff_ne]; exact h15
    clear hR hRl hs h13 h1 h2 h3 h4 h5 h6 h7 h8 h9 h10 h11 h12 h14 h15
    go_enter Tryz.func56, Tryz.ntmps56
    go_wp2_with fail
    rw [← hwX.out]
    refine hC1.out.mono ?_
    rintro e w1 ⟨rfl, g1⟩
    have y1 := hkX.out w1 g1
    have y1_0 := cell_blk y1 0 _ rfl
    have y1_1 := cell_blk y1 1 _ rfl
    have y1_2 := cell_blk y1 2 _ rfl
    have y1_3 := cell_blk y1 3 _ rfl
    have y1_4 := cell_blk y1 4 _ rfl
    have G1 := hid (hfB.out w1 g1)
    have K1 := hid g1
    clear g1 y1
    go_wp2
    go_ret2
    exact ⟨by rw [← hend.out]; rfl, G1.out⟩
end Go.Proofs.YtlojgpkajkedeaaGreatDoor
