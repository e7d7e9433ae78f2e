import Derived.Test.YtlojgpkajkedeaaGreatDoorW14
namespace Go.Proofs.YtlojgpkajkedeaaGreatDoor
open Go.RowKit

/-- What readList is asked for, at a depth. -/
def ListOK (d : Nat) : Prop := ∀ (b o cap : Nat) (s0 : ByteArray) (ts : List ByteArray) (w : World), ts.length + 1 ≤ cap → b < w.heap.size → RowS w b o (s0 :: ts) → Env w → bytes (dat (s0 :: ts)) ≤ d → (S.item s0.data.toList).ok = true →
  Calls Tryz.prog 122 #[.slice (some ⟨b, o, none⟩) (ts.length + 1) cap, .agg #[.int .u8 ((S.item s0.data.toList).kind.toNat : Int), .int .i64 (S.item s0.data.toList).number, .int .i64 ((S.item s0.data.toList).margin : Nat), .bool (S.item s0.data.toList).empty]] w fun e w' =>
    ∃ kv, e = .returned (.tuple #[blkVal (S.readList (S.readRow d) (S.item s0.data.toList) (dat (s0 :: ts))).1 kv, .int .i64 ((S.readList (S.readRow d) (S.item s0.data.toList) (dat (s0 :: ts))).2 : Nat)]) ∧ Rep w' (fun x => w.heap.size ≤ x ∧ x < w'.heap.size) kv (S.readList (S.readRow d) (S.item s0.data.toList) (dat (s0 :: ts))).1.kids ∧ Below w.heap.size w w'

theorem unquoted_lt (l : List UInt8) (h : S.isQuoted l = true) : (S.unquoted l).length < l.length := by
  unfold S.isQuoted Lib.hasPrefix at h
  have h1 := S.shallow_le l
  have h2 := Lib.trimPrefix_le ((S.shallow l).drop 1) [32]
  unfold S.unquoted
  cases hs : S.shallow l with
  | nil => rw [hs] at h; simp at h
  | cons c t => rw [hs] at h1 h2; simp at h1 h2 ⊢; omega
theorem quoteRow_bytes (l : List (List UInt8)) : bytes (S.quoteRow l) ≤ bytes l := by
  induction l with
  | nil => simp [S.quoteRow]
  | cons x r ih =>
    simp only [S.quoteRow]; split
    · rename_i h; have := unquoted_lt x h; simp only [bytes, List.map_cons, List.sum_cons] at *; omega
    · simp [bytes]
theorem quoteRow_lt (x : List UInt8) (r : List (List UInt8)) (h : S.isQuoted x = true) : bytes (S.quoteRow (x :: r)) < bytes (x :: r) := by
  have h1 := unquoted_lt x h
  have h2 := quoteRow_bytes r
  simp only [S.quoteRow, if_pos h, bytes, List.map_cons, List.sum_cons] at *; omega

set_option maxHeartbeats 8000000 in
theorem readBlock_any (d : Nat) (hR : RowOK d) (hL : ListOK d) (b o cap : Nat) (s0 : ByteArray) (ts : List ByteArray) (w : World) (hcap : ts.length + 1 ≤ cap) (hbw : b < w.heap.size) (hrow : RowS w b o (s0 :: ts)) (henv : Env w) (hd : bytes (dat (s0 :: ts)) ≤ d) :
    Calls Tryz.prog 85 #[.slice (some ⟨b, o, none⟩) (ts.length + 1) cap] w fun e w' =>
      ∃ kv, e = .returned (.tuple #[blkVal (S.readBlock (S.readRow d) (dat (s0 :: ts))).1 kv, .int .i64 ((S.readBlock (S.readRow d) (dat (s0 :: ts))).2 : Nat)]) ∧ Rep w' (fun x => w.heap.size ≤ x ∧ x < w'.heap.size) kv (S.readBlock (S.readRow d) (dat (s0 :: ts))).1.kids ∧ Below w.heap.size w w' := by
  have htot := hrow.2
  have hlen := hrow.len
  simp only [List.length_cons] at hlen
  have hs0 : (s0 :: ts)[0]? = some s0 := rfl
  have hs47 : s0.size ≤ 140737488355328 := by have := tot_mem _ _ s0 hs0; omega
  have hs6 : s0.size ≤ 1000000 := by have := tot_mem _ _ s0 hs0; omega
  have hsm : s0.size ≤ maxLen := by unfold maxLen; omega
  obtain ⟨WA, hWA⟩ : ∃ WA, WA = w.alloc (.cells #[.int .i64 0, .int .i64 0, .slice none 0 0, .int .i64 0, .string ⟨#[]⟩, .string ⟨#[]⟩, .bool false, .slice none 0 0] 110) := ⟨_, rfl⟩
  have hsA : WA.heap.size = w.heap.size + 1 := by rw [hWA]; simp
  have hbA : Below w.heap.size w WA := by rw [hWA]; exact (Below.refl _ w).alloc (Nat.le_refl _) _
  have hx0 : WA.heap[w.heap.size]? = some (.cells #[.int .i64 0, .int .i64 0, .slice none 0 0, .int .i64 0, .string ⟨#[]⟩, .string ⟨#[]⟩, .bool false, .slice none 0 0] 110) := by rw [hWA]; exact alloc_new _ _
  have hrowA := hid (hrow.below hbA hbw)
  have henvA := hid (henv.below hbA)
  have hcell : (w.alloc (.cells #[.int .i64 0, .int .i64 0, .slice none 0 0, .int .i64 0, .string ⟨#[]⟩, .string ⟨#[]⟩, .bool false, .slice none 0 0] 110)).cell? ⟨b, o, none⟩ = some (.string s0) := by rw [← hWA]; exact hrowA.out.1 0 s0 hs0
  have hbWA : b < WA.heap.size := by omega
  have hWAH := hid hWA
  have hsAH := hid hsA
  have hx0H := hid hx0
  -- whatever a callee gives as a block, laid into the result's cell
  have fin : ∀ (w2 : World) (B : S.Blk) (ka : Option Addr) (kn kc : Nat), Below WA.heap.size WA w2 → Rep w2 (fun x => WA.heap.size ≤ x ∧ x < w2.heap.size) (.slice ka kn kc) B.kids →
      (w2.cell? ⟨w.heap.size, 0, none⟩ = some (.int .i64 0) ∧ w2.cell? ⟨w.heap.size, 1, none⟩ = some (.int .i64 0) ∧ w2.cell? ⟨w.heap.size, 2, none⟩ = some (.slice none 0 0) ∧ w2.cell? ⟨w.heap.size, 3, none⟩ = some (.int .i64 0) ∧ w2.cell? ⟨w.heap.size, 4, none⟩ = some (.string ⟨#[]⟩) ∧ w2.cell? ⟨w.heap.size, 5, none⟩ = some (.string ⟨#[]⟩) ∧ w2.cell? ⟨w.heap.size, 6, none⟩ = some (.bool false) ∧ w2.cell? ⟨w.heap.size, 7, none⟩ = some (.slice none 0 0) ∧ (∀ i, w2.frozen? ⟨w.heap.size, i, none⟩ = false)) ∧
      (∀ v0 v1 v2 v3 v4 v5 v6 v7, Rep ((((((((w2.setCell ⟨w.heap.size, 0, none⟩ v0).setCell ⟨w.heap.size, 1, none⟩ v1).setCell ⟨w.heap.size, 2, none⟩ v2).setCell ⟨w.heap.size, 3, none⟩ v3).setCell ⟨w.heap.size, 4, none⟩ v4).setCell ⟨w.heap.size, 5, none⟩ v5).setCell ⟨w.heap.size, 6, none⟩ v6).setCell ⟨w.heap.size, 7, none⟩ v7) (fun x => w.heap.size ≤ x ∧ x < ((((((((w2.setCell ⟨w.heap.size, 0, none⟩ v0).setCell ⟨w.heap.size, 1, none⟩ v1).setCell ⟨w.heap.size, 2, none⟩ v2).setCell ⟨w.heap.size, 3, none⟩ v3).setCell ⟨w.heap.size, 4, none⟩ v4).setCell ⟨w.heap.size, 5, none⟩ v5).setCell ⟨w.heap.size, 6, none⟩ v6).setCell ⟨w.heap.size, 7, none⟩ v7).heap.size) (.slice ka kn kc) B.kids ∧ Below w.heap.size w ((((((((w2.setCell ⟨w.heap.size, 0, none⟩ v0).setCell ⟨w.heap.size, 1, none⟩ v1).setCell ⟨w.heap.size, 2, none⟩ v2).setCell ⟨w.heap.size, 3, none⟩ v3).setCell ⟨w.heap.size, 4, none⟩ v4).setCell ⟨w.heap.size, 5, none⟩ v5).setCell ⟨w.heap.size, 6, none⟩ v6).setCell ⟨w.heap.size, 7, none⟩ v7)) := by
    intro w2 B ka kn kc hb2 hrep
    have hk1 := hb2.block w.heap.size (by omega)
    rw [hx0] at hk1
    refine ⟨⟨cell_blk hk1 0 _ rfl, cell_blk hk1 1 _ rfl, cell_blk hk1 2 _ rfl, cell_blk hk1 3 _ rfl, cell_blk hk1 4 _ rfl, cell_blk hk1 5 _ rfl, cell_blk hk1 6 _ rfl, cell_blk hk1 7 _ rfl, free_blk hk1⟩, fun v0 v1 v2 v3 v4 v5 v6 v7 => ⟨?_, ?_⟩⟩
    · exact hrep.move (fun x hx => ⟨by omega, by rw [six_size]; exact hx.2⟩) (fun x hx => six_other _ _ _ _ _ _ _ _ x (by omega))
    · repeat (refine Below.setCell ?_ (by simp) _)
      exact hbA.trans (hb2.mono (by omega))
  have finH := hid fin
  have hRB : Hid (S.readBlock (S.readRow d) (dat (s0 :: ts)) = (if 4 ≤ S.indent s0.data.toList then S.readIndented (dat (s0 :: ts))
    else if S.isRule s0.data.toList = true then (.mk 4 0 [] [] false [], 1)
    else if 0 < S.titleLevel s0.data.toList then (.mk 2 (S.titleLevel s0.data.toList) [] (S.titleContent s0.data.toList) false [], 1)
    else if (S.fence s0.data.toList).ok = true then S.readFenced (S.fence s0.data.toList) (dat (s0 :: ts))
    else if S.isQuoted s0.data.toList = true then (.mk 5 0 [] [] false (S.readRow d (S.quoteRow (dat (s0 :: ts)))).1, (S.quoteRow (dat (s0 :: ts))).length)
    else if (S.item s0.data.toList).ok = true then S.readList (S.readRow d) (S.item s0.data.toList) (dat (s0 :: ts))
    else S.readParagraph (dat (s0 :: ts)))) := hid rfl
  obtain ⟨ind, hind⟩ : ∃ x, S.indent s0.data.toList = x := ⟨_, rfl⟩
  obtain ⟨lv, hlv⟩ : ∃ x, S.titleLevel s0.data.toList = x := ⟨_, rfl⟩
  have hIn : Hid (∀ wx, Calls Tryz.prog 112 #[.string s0] wx fun e w' => e = .returned (.int .i64 (ind : Nat)) ∧ wx = w') := hid (fun wx => (indentOf_any s0 wx hsm).mono (fun e w' ⟨h1, h2⟩ => ⟨by rw [h1, hind], h2.symm⟩))
  have hTi : Hid (∀ wx, Calls Tryz.prog 115 #[.string s0] wx fun e w' => e = .returned (.int .i64 (lv : Nat)) ∧ wx = w') := hid (fun wx => (titleLevel_any s0 wx hsm).mono (fun e w' ⟨h1, h2⟩ => ⟨by rw [h1, hlv], h2.symm⟩))
  have hindB : ind ≤ s0.size := by rw [← hind, ← S.length_data]; exact S.indent_le _
  rw [hind, hlv] at hRB
  clear fin hsA hx0 hWA
  by_cases h4 : 4 ≤ ind
  · have hres : Hid (S.readBlock (S.readRow d) (dat (s0 :: ts)) = S.readIndented (dat (s0 :: ts))) := hid (by rw [hRB.out, if_pos h4])
    have hCI := hid (readIndented_any b o cap (s0 :: ts) WA (by simp) (by simpa using hcap) hbWA hrowA.out)
    go_enter Tryz.func85, Tryz.ntmps85
    go_wp2_with (first | (go_at_call 112; refine (hIn.out _).mono ?_; rintro e w' ⟨rfl, rfl⟩) | (go_at_call 114; refine (hRu.out _).mono ?_; rintro e w' ⟨rfl, rfl⟩) | (go_at_call 115; refine (hTi.out _).mono ?_; rintro e w' ⟨rfl, rfl⟩))
    rw [← hWAH.out]
    refine hCI.out.mono ?_
    rintro e w2 ⟨rfl, hb2⟩
    obtain ⟨⟨d0, d1, d2, d3, d4, d5, d6, d7, g0⟩, hfin⟩ := finH.out w2 (S.readIndented (dat (s0 :: ts))).1 none 0 0 hb2 .nil
    have hfinH := hid hfin
    clear hfin hb2
    simp only [blkVal]
    go_wp2
    refine bodyPost_ret (v := .tuple #[blkVal (S.readIndented (dat (s0 :: ts))).1 (.slice none 0 0), .int .i64 ((S.readIndented (dat (s0 :: ts))).2 : Nat)]) (by simp [results, Tryz.results85, go_sem, d0, d1, d2, d3, d4, d5, d6, d7, blkVal]) rfl ⟨(.slice none 0 0), ?_, ?_, ?_⟩
    · rw [hres.out]
    · rw [hres.out]; exact (hfinH.out _ _ _ _ _ _ _ _).1
    · exact (hfinH.out _ _ _ _ _ _ _ _).2
  cases hru : S.isRule s0.data.toList
  case true =>
    have hRu : Hid (∀ wx, Calls Tryz.prog 114 #[.string s0] wx fun e w' => e = .returned (.bool true) ∧ wx = w') := hid (fun wx => (isRule_any s0 wx hsm).mono (fun e w' ⟨h1, h2⟩ => ⟨by rw [h1, hru], h2.symm⟩))
    have hres : Hid (S.readBlock (S.readRow d) (dat (s0 :: ts)) = (.mk 4 0 [] [] false [], 1)) := hid (by rw [hRB.out, if_neg h4, if_pos hru])
    obtain ⟨⟨d0, d1, d2, d3, d4, d5, d6, d7, g0⟩, hfin⟩ := finH.out WA (.mk 4 0 [] [] false []) none 0 0 (Below.refl _ _) .nil
    have hfinH := hid hfin
    clear hfin
    rw [hWAH.out] at d0 d1 d2 d3 d4 d5 d6 d7 g0
    go_enter Tryz.func85, Tryz.ntmps85
    go_wp2_with (first | (go_at_call 112; refine (hIn.out _).mono ?_; rintro e w' ⟨rfl, rfl⟩) | (go_at_call 114; refine (hRu.out _).mono ?_; rintro e w' ⟨rfl, rfl⟩) | (go_at_call 115; refine (hTi.out _).mono ?_; rintro e w' ⟨rfl, rfl⟩))
    exact bodyPost_ret (v := .tuple #[.agg #[.int .i64 4, .int .i64 0, .slice none 0 0, .int .i64 0, .string ⟨#[]⟩, .string ⟨#[]⟩, .bool false, .slice none 0 0], .int .i64 1]) (by simp [results, Tryz.results85, go_sem]) rfl ⟨.slice none 0 0, by rw [hres.out]; rfl, by rw [hres.out]; exact .nil, (Below.refl _ _).alloc (Nat.le_refl _) _⟩
  case false =>
  have hRu : Hid (∀ wx, Calls Tryz.prog 114 #[.string s0] wx fun e w' => e = .returned (.bool false) ∧ wx = w') := hid (fun wx => (isRule_any s0 wx hsm).mono (fun e w' ⟨h1, h2⟩ => ⟨by rw [h1, hru], h2.symm⟩))
  have hRB2 : Hid (_ = _) := hid (hRB.out.trans (by rw [if_neg h4, if_neg (by rw [hru]; simp)]))
  clear hRB
  by_cases hl0 : 0 < lv
  · have hres : Hid (S.readBlock (S.readRow d) (dat (s0 :: ts)) = (.mk 2 (lv : Int) [] (S.titleContent s0.data.toList) false [], 1)) := hid (by rw [hRB2.out, if_pos hl0])
    have hTC := hid (titleContent_any s0 WA hsm)
    go_enter Tryz.func85, Tryz.ntmps85
    go_wp2_with (first | (go_at_call 112; refine (hIn.out _).mono ?_; rintro e w' ⟨rfl, rfl⟩) | (go_at_call 114; refine (hRu.out _).mono ?_; rintro e w' ⟨rfl, rfl⟩) | (go_at_call 115; refine (hTi.out _).mono ?_; rintro e w' ⟨rfl, rfl⟩))
    rw [← hWAH.out]
    refine hTC.out.mono ?_
    rintro e w2 ⟨r, rfl, hr, hrl, hb2⟩
    obtain ⟨⟨d0, d1, d2, d3, d4, d5, d6, d7, g0⟩, hfin⟩ := finH.out w2 (.mk 2 (lv : Int) [] (S.titleContent s0.data.toList) false []) none 0 0 hb2 .nil
    have hfinH := hid hfin
    have hrS : Hid (Value.string r = .string (S.B (S.titleContent s0.data.toList))) := hid (by rw [← hr.out, S.B_data])
    clear hfin hb2
    go_wp2
    refine bodyPost_ret (v := .tuple #[.agg #[.int .i64 2, .int .i64 0, .slice none 0 0, .int .i64 (lv : Nat), .string ⟨#[]⟩, .string r, .bool false, .slice none 0 0], .int .i64 1]) (by simp [results, Tryz.results85, go_sem, d0, d1, d2, d3, d4, d5, d6, d7]) rfl ⟨.slice none 0 0, ?_, ?_, ?_⟩
    · rw [hres.out, hrS.out]; rfl
    · rw [hres.out]; exact (hfinH.out _ _ _ _ _ _ _ _).1
    · exact (hfinH.out _ _ _ _ _ _ _ _).2
  have hRB3 : Hid (_ = _) := hid (hRB2.out.trans (by rw [if_neg hl0]))
  clear hRB2
  obtain ⟨F, hF⟩ : ∃ F, S.fence s0.data.toList = F := ⟨_, rfl⟩
  have hFO := hid (fenceOf_any s0 WA hsm)
  rw [hF] at hFO hRB3
  have hFb : F.ind ≤ 1000000 := by rw [← hF]; unfold S.fence; split <;> (try split) <;> (try simp) <;> omega
  clear hF
  cases hok : F.ok
  case true =>
    have hres : Hid (S.readBlock (S.readRow d) (dat (s0 :: ts)) = S.readFenced F (dat (s0 :: ts))) := hid (by rw [hRB3.out, if_pos hok])
    rw [hok] at hFO
    go_enter Tryz.func85, Tryz.ntmps85
    go_wp2_with (first | (go_at_call 112; refine (hIn.out _).mono ?_; rintro e w' ⟨rfl, rfl⟩) | (go_at_call 114; refine (hRu.out _).mono ?_; rintro e w' ⟨rfl, rfl⟩) | (go_at_call 115; refine (hTi.out _).mono ?_; rintro e w' ⟨rfl, rfl⟩))
    rw [← hWAH.out]
    refine hFO.out.mono ?_
    rintro e w1 ⟨info, rfl, hi, hil, hb1⟩
    have hbF := hb1.alloc hb1.size (.cells #[.int .u8 (F.mark.toNat : Int), .int .i64 (F.width : Nat), .int .i64 (F.ind : Nat), .string info] 181)
    have hCF := hid (readFenced_any b o cap s0 ts F.mark F.width F.ind info (w1.alloc (.cells #[.int .u8 (F.mark.toNat : Int), .int .i64 (F.width : Nat), .int .i64 (F.ind : Nat), .string info] 181)) (Nat.lt_of_lt_of_le hbWA hbF.size) (hrowA.out.below hbF hbWA) hFb)
    have hbFH := hid hbF
    have hszF : WA.heap.size ≤ (w1.alloc (.cells #[.int .u8 (F.mark.toNat : Int), .int .i64 (F.width : Nat), .int .i64 (F.ind : Nat), .string info] 181)).heap.size := hbF.size
    have hszFH := hid hszF
    clear hb1 hbF hszF
    go_wp2_with fail
    refine hCF.out.mono ?_
    rintro e w2 ⟨rfl, hb2⟩
    obtain ⟨⟨d0, d1, d2, d3, d4, d5, d6, d7, g0⟩, hfin⟩ := finH.out w2 (S.readFenced F (dat (s0 :: ts))).1 none 0 0 (hbFH.out.trans (hb2.mono hszFH.out)) .nil
    have hfinH := hid hfin
    have hrS : Hid (Value.string info = .string (S.B F.info)) := hid (by rw [← hi.out, S.B_data])
    clear hfin hb2
    go_wp2
    refine bodyPost_ret (v := .tuple #[.agg #[.int .i64 3, .int .i64 0, .slice none 0 0, .int .i64 0, .string info, .string (S.B (S.fencedText F.ind ((dat ts).take (S.fencedSize F.mark F.width (dat ts))))), .bool false, .slice none 0 0], .int .i64 ((min (S.fencedSize F.mark F.width (dat ts) + 1 + 1) (ts.length + 1) : Nat) : Int)]) (by simp [results, Tryz.results85, go_sem, d0, d1, d2, d3, d4, d5, d6, d7]) rfl ⟨.slice none 0 0, ?_, ?_, ?_⟩
    · rw [hres.out, hrS.out]; unfold S.readFenced; rw [dat_length]; rfl
    · rw [hres.out]; exact (hfinH.out _ _ _ _ _ _ _ _).1
    · exact (hfinH.out _ _ _ _ _ _ _ _).2
  case false =>
  have hRB4 : Hid (_ = _) := hid (hRB3.out.trans (by rw [if_neg (by rw [hok]; simp)]))
  rw [hok] at hFO
  clear hRB3 hok
  cases hqu : S.isQuoted s0.data.toList
  case true =>
    have hIQ : Hid (∀ wx, Calls Tryz.prog 119 #[.string s0] wx fun e w' => e = .returned (.bool true) ∧ wx = w') := hid (fun wx => (isQuoted_any s0 wx hsm).mono (fun e w' ⟨h1, h2⟩ => ⟨by rw [h1, hqu], h2.symm⟩))
    have hres : Hid (S.readBlock (S.readRow d) (dat (s0 :: ts)) = (.mk 5 0 [] [] false (S.readRow d (S.quoteRow (dat (s0 :: ts)))).1, (S.quoteRow (dat (s0 :: ts))).length)) := hid (by rw [hRB4.out, if_pos hqu])
    go_enter Tryz.func85, Tryz.ntmps85
    go_wp2_with (first | (go_at_call 112; refine (hIn.out _).mono ?_; rintro e w' ⟨rfl, rfl⟩) | (go_at_call 114; refine (hRu.out _).mono ?_; rintro e w' ⟨rfl, rfl⟩) | (go_at_call 115; refine (hTi.out _).mono ?_; rintro e w' ⟨rfl, rfl⟩))
    rw [← hWAH.out]
    refine hFO.out.mono ?_
    rintro e w1 ⟨info, rfl, hi, hil, hb1⟩
    have hbF := hb1.alloc hb1.size (.cells #[.int .u8 (F.mark.toNat : Int), .int .i64 (F.width : Nat), .int .i64 (F.ind : Nat), .string info] 181)
    have hCQ := hid (readQuote_any d hR b o cap (s0 :: ts) (w1.alloc (.cells #[.int .u8 (F.mark.toNat : Int), .int .i64 (F.width : Nat), .int .i64 (F.ind : Nat), .string info] 181)) (Nat.lt_of_lt_of_le hbWA hbF.size) (hrowA.out.below hbF hbWA) (henvA.out.below hbF) (by rw [dat_get]; simp [hqu]) (Nat.lt_of_lt_of_le (quoteRow_lt s0.data.toList (dat ts) hqu) hd))
    have hbFH := hid hbF
    have hszF : WA.heap.size ≤ (w1.alloc (.cells #[.int .u8 (F.mark.toNat : Int), .int .i64 (F.width : Nat), .int .i64 (F.ind : Nat), .string info] 181)).heap.size := hbF.size
    have hszFH := hid hszF
    clear hb1 hbF hszF
    go_wp2_with (go_at_call 119; refine (hIQ.out _).mono ?_; rintro e w' ⟨rfl, rfl⟩)
    refine hCQ.out.mono ?_
    rintro e w2 ⟨kv, rfl, hrep, hb2⟩
    obtain ⟨ka, kn, kc, rfl⟩ := hrep.form
    obtain ⟨⟨d0, d1, d2, d3, d4, d5, d6, d7, g0⟩, hfin⟩ := finH.out w2 (.mk 5 0 [] [] false (S.readRow d (S.quoteRow (dat (s0 :: ts)))).1) ka kn kc (hbFH.out.trans (hb2.mono hszFH.out)) (hrep.move (fun x hx => ⟨Nat.le_trans hszFH.out hx.1, hx.2⟩) (fun _ _ => rfl))
    have hfinH := hid hfin
    clear hfin hb2 hrep
    simp only [blkVal]
    go_wp2
    refine bodyPost_ret (v := .tuple #[blkVal (.mk 5 0 [] [] false (S.readRow d (S.quoteRow (dat (s0 :: ts)))).1) (.slice ka kn kc), .int .i64 ((S.quoteRow (dat (s0 :: ts))).length : Nat)]) (by simp [results, Tryz.results85, go_sem, d0, d1, d2, d3, d4, d5, d6, d7, blkVal]) rfl ⟨.slice ka kn kc, ?_, ?_, ?_⟩
    · rw [hres.out]
    · rw [hres.out]; exact (hfinH.out _ _ _ _ _ _ _ _).1
    · exact (hfinH.out _ _ _ _ _ _ _ _).2
  case false =>
  have hIQ : Hid (∀ wx, Calls Tryz.prog 119 #[.string s0] wx fun e w' => e = .returned (.bool false) ∧ wx = w') := hid (fun wx => (isQuoted_any s0 wx hsm).mono (fun e w' ⟨h1, h2⟩ => ⟨by rw [h1, hqu], h2.symm⟩))
  have hRB5 : Hid (_ = _) := hid (hRB4.out.trans (by rw [if_neg (by rw [hqu]; simp)]))
  have hLL := hid (fun wx h1 h2 h3 h4 => hL b o cap s0 ts wx hcap h1 h2 h3 hd h4)
  have hIO := hid (fun wx he => itemOf_any s0 wx hs47 he)
  obtain ⟨it, hit⟩ : ∃ it, S.item s0.data.toList = it := ⟨_, rfl⟩
  rw [hit] at hRB5 hLL hIO
  clear hRB4 hit hqu
  cases hok : it.ok
  case true =>
    have hres : Hid (S.readBlock (S.readRow d) (dat (s0 :: ts)) = S.readList (S.readRow d) it (dat (s0 :: ts))) := hid (by rw [hRB5.out, if_pos hok])
    rw [hok] at hIO
    go_enter Tryz.func85, Tryz.ntmps85
    go_wp2_with (first | (go_at_call 112; refine (hIn.out _).mono ?_; rintro e w' ⟨rfl, rfl⟩) | (go_at_call 114; refine (hRu.out _).mono ?_; rintro e w' ⟨rfl, rfl⟩) | (go_at_call 115; refine (hTi.out _).mono ?_; rintro e w' ⟨rfl, rfl⟩))
    rw [← hWAH.out]
    refine hFO.out.mono ?_
    rintro e w1 ⟨info, rfl, hi, hil, hb1⟩
    have hbF := hb1.alloc hb1.size (.cells #[.int .u8 (F.mark.toNat : Int), .int .i64 (F.width : Nat), .int .i64 (F.ind : Nat), .string info] 181)
    have henvF := hid (henvA.out.below hbF)
    have hbFH := hid hbF
    have hszF : WA.heap.size ≤ (w1.alloc (.cells #[.int .u8 (F.mark.toNat : Int), .int .i64 (F.width : Nat), .int .i64 (F.ind : Nat), .string info] 181)).heap.size := hbF.size
    have hszFH := hid hszF
    clear hb1 hbF hszF
    go_wp2_with (go_at_call 119; refine (hIQ.out _).mono ?_; rintro e w' ⟨rfl, rfl⟩)
    refine (hIO.out _ henvF.out).mono ?_
    rintro e w3 ⟨rfl, hb3⟩
    have hbG := (hbFH.out.trans (hb3.mono hszFH.out)).alloc (Nat.le_trans hszFH.out hb3.size) (.cells #[.int .u8 (it.kind.toNat : Int), .int .i64 it.number, .int .i64 (it.margin : Nat), .bool it.empty] 186)
    have hCL := hid (hLL.out (w3.alloc (.cells #[.int .u8 (it.kind.toNat : Int), .int .i64 it.number, .int .i64 (it.margin : Nat), .bool it.empty] 186)) (Nat.lt_of_lt_of_le hbWA hbG.size) (hrowA.out.below hbG hbWA) (henvA.out.below hbG) hok)
    have hbGH := hid hbG
    have hszG : WA.heap.size ≤ (w3.alloc (.cells #[.int .u8 (it.kind.toNat : Int), .int .i64 it.number, .int .i64 (it.margin : Nat), .bool it.empty] 186)).heap.size := hbG.size
    have hszGH := hid hszG
    clear hb3 hbG hszG
    go_wp2_with fail
    refine hCL.out.mono ?_
    rintro e w2 ⟨kv, rfl, hrep, hb2⟩
    obtain ⟨ka, kn, kc, rfl⟩ := hrep.form
    obtain ⟨⟨d0, d1, d2, d3, d4, d5, d6, d7, g0⟩, hfin⟩ := finH.out w2 (S.readList (S.readRow d) it (dat (s0 :: ts))).1 ka kn kc (hbGH.out.trans (hb2.mono hszGH.out)) (hrep.move (fun x hx => ⟨Nat.le_trans hszGH.out hx.1, hx.2⟩) (fun _ _ => rfl))
    have hfinH := hid hfin
    clear hfin hb2 hrep
    simp only [blkVal]
    go_wp2
    refine bodyPost_ret (v := .tuple #[blkVal (S.readList (S.readRow d) it (dat (s0 :: ts))).1 (.slice ka kn kc), .int .i64 ((S.readList (S.readRow d) it (dat (s0 :: ts))).2 : Nat)]) (by simp [results, Tryz.results85, go_sem, d0, d1, d2, d3, d4, d5, d6, d7, blkVal]) rfl ⟨.slice ka kn kc, ?_, ?_, ?_⟩
    · rw [hres.out]
    · rw [hres.out]; exact (hfinH.out _ _ _ _ _ _ _ _).1
    · exact (hfinH.out _ _ _ _ _ _ _ _).2
  case false =>
    have hres : Hid (S.readBlock (S.readRow d) (dat (s0 :: ts)) = S.readParagraph (dat (s0 :: ts))) := hid (by rw [hRB5.out, if_neg (by rw [hok]; simp)])
    have hkids : (S.readParagraph (dat (s0 :: ts))).1.kids = [] := by
      unfold S.readParagraph; simp only []; split
      · rfl
      · split <;> rfl
    rw [hok] at hIO
    go_enter Tryz.func85, Tryz.ntmps85
    go_wp2_with (first | (go_at_call 112; refine (hIn.out _).mono ?_; rintro e w' ⟨rfl, rfl⟩) | (go_at_call 114; refine (hRu.out _).mono ?_; rintro e w' ⟨rfl, rfl⟩) | (go_at_call 115; refine (hTi.out _).mono ?_; rintro e w' ⟨rfl, rfl⟩))
    rw [← hWAH.out]
    refine hFO.out.mono ?_
    rintro e w1 ⟨info, rfl, hi, hil, hb1⟩
    have hbF := hb1.alloc hb1.size (.cells #[.int .u8 (F.mark.toNat : Int), .int .i64 (F.width : Nat), .int .i64 (F.ind : Nat), .string info] 181)
    have henvF := hid (henvA.out.below hbF)
    have hbFH := hid hbF
    have hszF : WA.heap.size ≤ (w1.alloc (.cells #[.int .u8 (F.mark.toNat : Int), .int .i64 (F.width : Nat), .int .i64 (F.ind : Nat), .string info] 181)).heap.size := hbF.size
    have hszFH := hid hszF
    clear hb1 hbF hszF
    go_wp2_with (go_at_call 119; refine (hIQ.out _).mono ?_; rintro e w' ⟨rfl, rfl⟩)
    refine (hIO.out _ henvF.out).mono ?_
    rintro e w3 ⟨rfl, hb3⟩
    have hbG := (hbFH.out.trans (hb3.mono hszFH.out)).alloc (Nat.le_trans hszFH.out hb3.size) (.cells #[.int .u8 (it.kind.toNat : Int), .int .i64 it.number, .int .i64 (it.margin : Nat), .bool it.empty] 186)
    have hCP := hid (readParagraph_any b o cap s0 ts (w3.alloc (.cells #[.int .u8 (it.kind.toNat : Int), .int .i64 it.number, .int .i64 (it.margin : Nat), .bool it.empty] 186)) hcap (Nat.lt_of_lt_of_le hbWA hbG.size) (hrowA.out.below hbG hbWA) (henvA.out.below hbG))
    have hbGH := hid hbG
    have hszG : WA.heap.size ≤ (w3.alloc (.cells #[.int .u8 (it.kind.toNat : Int), .int .i64 it.number, .int .i64 (it.margin : Nat), .bool it.empty] 186)).heap.size := hbG.size
    have hszGH := hid hszG
    have hkidsH := hid hkids
    clear hb3 hbG hszG hkids
    go_wp2_with fail
    refine hCP.out.mono ?_
    rintro e w2 ⟨rfl, hb2⟩
    obtain ⟨⟨d0, d1, d2, d3, d4, d5, d6, d7, g0⟩, hfin⟩ := finH.out w2 (S.readParagraph (dat (s0 :: ts))).1 none 0 0 (hbGH.out.trans (hb2.mono hszGH.out)) (by rw [hkidsH.out]; exact .nil)
    have hfinH := hid hfin
    clear hfin hb2
    simp only [blkVal]
    go_wp2
    refine bodyPost_ret (v := .tuple #[blkVal (S.readParagraph (dat (s0 :: ts))).1 (.slice none 0 0), .int .i64 ((S.readParagraph (dat (s0 :: ts))).2 : Nat)]) (by simp [results, Tryz.results85, go_sem, d0, d1, d2, d3, d4, d5, d6, d7, blkVal]) rfl ⟨.slice none 0 0, ?_, ?_, ?_⟩
    · rw [hres.out]
    · rw [hres.out]; exact (hfinH.out _ _ _ _ _ _ _ _).1
    · exact (hfinH.out _ _ _ _ _ _ _ _).2

end Go.Proofs.YtlojgpkajkedeaaGreatDoor
