import Derived.Test.YtlojgpkajkedeaaGreatDoorW18
import Derived.Test.YtlojgpkajkedeaaGreatDoorC7
/- The blocks of a row, and which lines each of them has. -/
namespace Go.Proofs.YtlojgpkajkedeaaGreatDoor
open Go.RowKit

/-- Where the blocks come from. -/
def Src (b o cap d : Nat) (ss : List ByteArray) (ps : List (S.Blk × Value × Ext)) : Prop := ∀ (i : Nat) (p : S.Blk × Value × Ext), ps[i]? = some p → ∃ k : Nat, k < ss.length ∧ p.1 = (S.readBlock (S.readRow d) ((dat ss).drop k)).1.put (k : Int) ∧ p.2.2 = ⟨some ⟨b, o + k, none⟩, (S.readBlock (S.readRow d) ((dat ss).drop k)).2, cap - k⟩
theorem Src.snoc {b o cap d : Nat} {ss : List ByteArray} {ps : List (S.Blk × Value × Ext)} (h : Src b o cap d ss ps) (k : Nat) (hk : k < ss.length) (B : S.Blk × Nat) (hB : S.readBlock (S.readRow d) ((dat ss).drop k) = B) (kv : Value) :
    Src b o cap d ss (ps ++ [(B.1.put (k : Int), kv, (⟨some ⟨b, o + k, none⟩, B.2, cap - k⟩ : Ext))]) := by
  intro i p hi
  by_cases hil : i < ps.length
  · rw [List.getElem?_append_left hil] at hi; exact h i p hi
  · rw [List.getElem?_append_right (by omega)] at hi
    have hi0 : i - ps.length = 0 := by have := (List.getElem?_eq_some_iff.1 hi).1; simp at this; omega
    rw [hi0] at hi
    simp at hi
    subst hi
    exact ⟨k, hk, by rw [hB], by rw [hB]⟩
/-- Each block bears its lines: a piece of the row. -/
def LinesIn (b o cap d : Nat) (ss : List ByteArray) (w : World) (v : Value) : Prop := ∀ (i : Nat) (t : S.Blk), (S.readRow (d + 1) (dat ss)).1[i]? = some t → ∃ (k g n c : Nat), v = .slice (some ⟨g, 0, none⟩) n c ∧ k < ss.length ∧ t = (S.readBlock (S.readRow d) ((dat ss).drop k)).1.put (k : Int) ∧ w.cell? ⟨g, i * 8 + 2, none⟩ = some (.slice (some ⟨b, o + k, none⟩) (S.readBlock (S.readRow d) ((dat ss).drop k)).2 (cap - k))
theorem lines_of_owns {w : World} {B : Nat} {v : Value} {ps : List (S.Blk × Value × Ext)} {b o cap d : Nat} {ss : List ByteArray} (h : w.ownsRow B 110 8 v ps.length (cellsOf ps)) (hs : Src b o cap d ss ps) :
    ∀ (i : Nat) (t : S.Blk), (ps.map Prod.fst)[i]? = some t → ∃ (k g n c : Nat), v = .slice (some ⟨g, 0, none⟩) n c ∧ k < ss.length ∧ t = (S.readBlock (S.readRow d) ((dat ss).drop k)).1.put (k : Int) ∧ w.cell? ⟨g, i * 8 + 2, none⟩ = some (.slice (some ⟨b, o + k, none⟩) (S.readBlock (S.readRow d) ((dat ss).drop k)).2 (cap - k)) := by
  intro i t hi
  rw [List.getElem?_map] at hi
  cases hp : ps[i]? with
  | none => rw [hp] at hi; simp at hi
  | some p =>
    rw [hp] at hi
    simp at hi
    subst hi
    rcases h.2 with ⟨h1, h2⟩ | ⟨g, cp, cur, h1, h2, h3, h4, h5, h6, h7⟩
    · have := (List.getElem?_eq_some_iff.1 hp).1; omega
    · obtain ⟨k, hk, e1, e2⟩ := hs i p hp
      refine ⟨k, g, _, _, h1, hk, e1, ?_⟩
      have hx := cellsOf_get ps i 2 p hp (by omega)
      have := h.cells (g := g) (by rw [h1]; rfl) (8 * i + 2) (.slice p.2.2.la p.2.2.ln p.2.2.lc) (by rw [hx]; rfl)
      have ha : (⟨g, 0, none⟩ : Addr).add (8 * i + 2) = ⟨g, i * 8 + 2, none⟩ := by
        simp only [Addr.add]; split
        · rename_i h; simp <;> omega
        · simp <;> omega
      rw [ha, e2] at this
      exact this

set_option maxRecDepth 100000 in
set_option maxHeartbeats 8000000 in
theorem readRow_lines (d : Nat) (hR : RowOK d) (hL : ListOK d) (b o cap : Nat) (ss : List ByteArray) (w : World) (hcap : ss.length ≤ cap) (hbw : b < w.heap.size) (hrow : RowS w b o ss) (henv : Env w) (hd : bytes (dat ss) < d + 1) :
    Calls Tryz.prog 64 #[.slice (some ⟨b, o, none⟩) ss.length cap] w fun e w' => ∃ v, e = .returned (.tuple #[v, .bool (S.readRow (d + 1) (dat ss)).2]) ∧ Rep w' (fun x => w.heap.size ≤ x ∧ x < w'.heap.size) v (S.readRow (d + 1) (dat ss)).1 ∧ Below w.heap.size w w' ∧ LinesIn b o cap d ss w' v := by
  have htot := hrow.2
  have hlen := hrow.len
  obtain ⟨i0, hi, hz0, hz1, hz2⟩ := info_parts Tryz.infoBlk
  have hbl := S.countBlank_le (dat ss)
  rw [dat_length] at hbl
  obtain ⟨k0, hk0⟩ : ∃ k0, S.countBlank (dat ss) = k0 := ⟨_, rfl⟩
  have hCB0 : Hid (Calls Tryz.prog 84 #[.slice (some ⟨b, o, none⟩) ss.length cap] w fun e w' => e = .returned (.int .i64 (k0 : Nat)) ∧ w = w') := hid ((countBlank_any b o cap ss w (by omega) hrow.row).mono (fun e w' ⟨h1, h2⟩ => ⟨by rw [h1, hk0], h2.symm⟩))
  have hstart : Hid (RowRel d w ss k0 ss.length [] (.slice none 0 0) false w) := hid ⟨by rw [← hk0]; unfold S.readRow; rw [dat_length]; simp, by omega, World.ownsRow_nil _ _ _ _, by intro i p h; simp at h, Below.refl _ _, by simp⟩
  rw [hk0] at hbl
  have hsrc0 : Hid (Src b o cap d ss []) := hid (fun i p h => by simp at h)
  have hRH := hid hR
  have hLH := hid hL
  clear hk0 hR hL
  go_enter Tryz.func64, Tryz.ntmps64
  go_wp2_with (go_at_call 84; refine hCB0.out.mono ?_; rintro e w' ⟨rfl, rfl⟩)
  go_loopw [2, 3, 4, 5, 6, 7] (fun v p at' _ _ _ wr => ∃ (k f : Nat) (ps : List (S.Blk × Value × Ext)) (a : Option Addr) (cp : Nat) (pb : Bool), k ≤ ss.length ∧ v = .slice a ps.length cp ∧ p = .bool pb ∧ at' = .int .i64 k ∧ RowRel d w ss k f ps v pb wr ∧ Src b o cap d ss ps) (fun _ _ at' _ _ _ _ => ss.length - (intOf at').toNat)
  case atStart => exact ⟨k0, ss.length, [], none, 0, false, hbl, rfl, rfl, rfl, hstart.out, hsrc0.out⟩
  case round =>
    obtain ⟨k, f, ps, a, cp, pb, hk, rfl, rfl, rfl, hrel', hsrc⟩ := hrel
    have hrelH := hid hrel'
    have hsrcH := hid hsrc
    clear hsrc
    have hszr : w.heap.size ≤ wr.heap.size := hrel'.below.size
    clear hrel'
    by_cases hlt : k < ss.length
    · obtain ⟨s, ts, hdr⟩ : ∃ s ts, ss.drop k = s :: ts := by
        cases h : ss.drop k with
        | nil => have := congrArg List.length h; rw [List.length_drop] at this; simp at this; omega
        | cons s ts => exact ⟨s, ts, rfl⟩
      have hts : ss.length - k = ts.length + 1 := by have := congrArg List.length hdr; rw [List.length_drop] at this; simpa using this
      have hkc : k < cap := by omega
      obtain ⟨B, hB⟩ : ∃ B, S.readBlock (S.readRow d) ((dat ss).drop k) = B := ⟨_, rfl⟩
      have hddr : (dat ss).drop k = dat (s :: ts) := by rw [← dat_drop, hdr]
      have hsz := S.readBlock_size (S.readRow d) s.data.toList (dat ts)
      have hszB : 1 ≤ B.2 ∧ B.2 ≤ ss.length - k := by
        rw [← hB, hddr, hts]; have h2 := hsz.2; rw [List.length_cons, dat_length] at h2; exact ⟨hsz.1, h2⟩
      obtain ⟨hsz1, hsz2⟩ := hszB
      have hRB : Hid (Calls Tryz.prog 85 #[.slice (some ⟨b, o + k, none⟩) (ss.length - k) (cap - k)] wr fun e w' => ∃ kv, e = .returned (.tuple #[blkVal B.1 kv, .int .i64 (B.2 : Nat)]) ∧ Rep w' (fun x => wr.heap.size ≤ x ∧ x < w'.heap.size) kv B.1.kids ∧ Below wr.heap.size wr w') := hid (by
        have hrd := (hrow.below hrelH.out.below hbw).drop k
        rw [hdr] at hrd
        have := readBlock_any d hRH.out hLH.out b (o + k) (cap - k) s ts wr (by omega) (by omega) hrd (henv.below hrelH.out.below) (by
          rw [← hddr]
          have := bytes_drop (dat ss) k
          omega)
        rw [← hddr, hB, ← hts] at this
        exact this)
      have hBH := hid hB
      have hneD : Hid ((dat ss).drop k ≠ []) := hid (by rw [hddr]; simp [dat])
      have hsn : Hid (∀ kv, Src b o cap d ss (ps ++ [(B.1.put (k : Int), kv, (⟨some ⟨b, o + k, none⟩, B.2, cap - k⟩ : Ext))])) := hid (fun kv => hsrcH.out.snoc k hlt B hB kv)
      clear hts hdr hddr hsz hB
      go_wp2_with fail
      refine hRB.out.mono ?_
      rintro e w1 ⟨kv, rfl, hrep, hb1⟩
      obtain ⟨ka, kn, kc, rfl⟩ := hrep.form
      have hown1 : w1.ownsRow w.heap.size 110 8 (.slice a ps.length cp) ps.length (cellsOf ps) := hrelH.out.own.kept (Below.toGrown hb1) (by
        cases h : (Value.slice a ps.length cp).ownBlock with
        | none => exact .inl rfl
        | some g => exact .inr (by simp))
      have hown2 : Hid (∀ wz o2, Below w1.heap.size w1 wz → (wz.alloc o2).ownsRow w.heap.size 110 8 (.slice a ps.length cp) ps.length (cellsOf ps)) := hid (fun wz o2 hz => (hown1.kept (Below.toGrown hz) (by
        cases h : (Value.slice a ps.length cp).ownBlock with
        | none => exact .inl rfl
        | some g => exact .inr (by simp))).alloc o2)
      have hnew : Hid (∀ (wz : World), wz.heap.size = w1.heap.size + 1 → ∀ j u, (six (B.1.put (k : Int), .slice ka kn kc, (⟨some ⟨b, o + k, none⟩, B.2, cap - k⟩ : Ext)))[j]? = some u → (wz.alloc (.cells #[.int .i64 B.1.kind, .int .i64 (k : Int), .slice (some ⟨b, o + k, none⟩) B.2 (cap - k), .int .i64 B.1.n, .string (S.B B.1.info), .string (S.B B.1.text), .bool B.1.loose, .slice ka kn kc] 110)).cell? ((⟨w1.heap.size + 1, 0, none⟩ : Addr).add j) = some u) := hid (by
        intro wz hsz j u hj
        have ha : (⟨w1.heap.size + 1, 0, none⟩ : Addr).add j = ⟨wz.heap.size, j, none⟩ := by
          rw [hsz]; simp only [Addr.add]; split
          · rename_i h; simp <;> omega
          · simp <;> omega
        rw [ha]
        exact cell_blk (alloc_new _ _) j u (by rw [← hj]; simp [six, S.Blk.put_kind, S.Blk.put_line, S.Blk.put_n, S.Blk.put_info, S.Blk.put_text, S.Blk.put_loose]))
      have hone : Hid (∀ u ∈ six (B.1.put (k : Int), .slice ka kn kc, (⟨some ⟨b, o + k, none⟩, B.2, cap - k⟩ : Ext)), u.oneCell' = true) := hid (by
        intro u hu; simp [six] at hu; rcases hu with rfl | rfl | rfl | rfl | rfl | rfl | rfl | rfl <;> rfl)
      have hcnt := hrelH.out.count
      have hrepH := hid hrep
      have hb1H := hid hb1
      have hsz1r : wr.heap.size ≤ w1.heap.size := hb1.size
      clear hrep hb1 hown1
      have hck : ¬ cap = k := by omega
      have hJ0 : (0 : Int) ≤ (k : Int) := by omega
      have hJ1 : (k : Int) ≤ (k : Int) + (B.2 : Int) := by omega
      have hJ2 : (k : Int) + (B.2 : Int) ≤ (cap : Int) := by omega
      have hJ3 : (0 : Int) ≤ (k : Int) + (B.2 : Int) := by omega
      have hwr4 : IntKind.i64.wrap ((k : Int) + (B.2 : Int)) = (k : Int) + (B.2 : Int) := by rw [IntKind.wrap_i64]; omega
      have hton4 : ((k : Int) + (B.2 : Int)).toNat = k + B.2 := by omega
      have hsub4 : k + B.2 - k = B.2 := by omega
      simp only [blkVal]
      go_wp2_with fail
      go_region
      go_wp2_with (at_builtin; refine wpList_append_lies _ (by rfl) _ _ 77 (by rfl) w.heap.size 110 i0 (.agg #[.int .i64 0, .int .i64 0, .slice none 0 0, .int .i64 0, .string ⟨#[]⟩, .string ⟨#[]⟩, .bool false, .slice none 0 0]) 8 112 Tryz.underlying77 hi hz0 hz1 hz2 (by rfl) (by omega) (.slice a ps.length cp) ps.length (cellsOf ps) (by rfl) (hown2.out _ _ ((Below.refl _ w1).alloc (Nat.le_refl _) _)) ⟨w1.heap.size + 1, 0, none⟩ 1 1 (six (B.1.put (k : Int), .slice ka kn kc, (⟨some ⟨b, o + k, none⟩, B.2, cap - k⟩ : Ext))) (by rfl) (by rfl) (hnew.out _ (by simp)) hone.out (by omega) (by unfold maxLen; omega) (by omega) (by simp; omega) (w1.heap.size + 1 + 1) (by simp) ?_)
      intro g cap1 w2 hown3 hgrow hat hltg
      have hstepRel := hid (hrelH.out.step hb1H.out (B := B.1.put (k : Int)) (by rw [S.Blk.put_kids]; exact hrepH.out) hown3 ((((Below.refl _ w1).alloc (Nat.le_refl _) _).alloc (by simp) _).drew) (by simp) hgrow hat)
      have hbel2 : Below w.heap.size w w2 := hstepRel.out.2.2
      have hrow2 := hid (hrow.below hbel2 hbw)
      clear hown3 hgrow hat hltg hbel2
      by_cases hkc2 : k + B.2 < cap
      · skip
        have hG : S.countBlank (dat (ss.drop (k + B.2))) ≤ ss.length - (k + B.2) := by have := S.countBlank_le (dat (ss.drop (k + B.2))); rw [dat_length, List.length_drop] at this; exact this
        obtain ⟨gp, hgp⟩ : ∃ gp, S.countBlank (dat (ss.drop (k + B.2))) = gp := ⟨_, rfl⟩
        have hCB : Hid (Calls Tryz.prog 84 #[.slice (some ⟨b, o + (k + B.2), none⟩) (ss.length - (k + B.2)) (cap - (k + B.2))] w2 fun e w' => e = .returned (.int .i64 (gp : Nat)) ∧ w2 = w') := hid (by
          have hrd := hrow2.out.drop (k + B.2)
          have := countBlank_any b (o + (k + B.2)) (cap - (k + B.2)) (ss.drop (k + B.2)) w2 (by rw [List.length_drop]; omega) hrd.row
          rw [List.length_drop, hgp] at this
          exact this.mono (fun e w' ⟨h1, h2⟩ => ⟨h1, h2.symm⟩))
        rw [hgp] at hG
        have hstep : Hid (S.readRow (d + 1) (dat ss) = ((ps ++ [(B.1.put (k : Int), Value.slice ka kn kc, (⟨some ⟨b, o + k, none⟩, B.2, cap - k⟩ : Ext))]).map Prod.fst ++ (S.rowFrom (S.readRow d) ss.length (f - 1) ((dat ss).drop (k + B.2 + gp))).1, (if 0 < gp ∧ k + B.2 + gp < ss.length then true else pb) || (S.rowFrom (S.readRow d) ss.length (f - 1) ((dat ss).drop (k + B.2 + gp))).2)) := hid (by
          rw [hrelH.out.spec]
          obtain ⟨f', hf'⟩ : ∃ f', f = f' + 1 := ⟨f - 1, by have := hrelH.out.fuel; omega⟩
          have e1 : ((dat ss).drop k).drop B.2 = dat (ss.drop (k + B.2)) := by rw [List.drop_drop, dat_drop]
          have e2 : ((dat ss).drop k).drop (B.2 + gp) = (dat ss).drop (k + B.2 + gp) := by rw [List.drop_drop]; congr 1; omega
          have hln : ((ss.length - ((dat ss).drop k).length : Nat) : Int) = (k : Int) := by rw [List.length_drop, dat_length]; omega
          rw [hf', S.rowFrom_step _ _ _ _ hneD.out, hBH.out, hln, e1, hgp, e2, Nat.add_sub_cancel]
          have e3 : ((dat ss).drop (k + B.2 + gp)).isEmpty = decide (¬ k + B.2 + gp < ss.length) := by
            rw [Bool.eq_iff_iff, List.isEmpty_iff, List.drop_eq_nil_iff, dat_length, decide_eq_true_iff]; omega
          rw [e3]
          by_cases hc : 0 < gp ∧ k + B.2 + gp < ss.length
          · rw [if_pos hc, decide_eq_true hc.1, decide_eq_false (not_not_intro hc.2)]; simp
          · rw [if_neg hc]
            have : (decide (0 < gp) && !decide (¬ k + B.2 + gp < ss.length)) = false := by
              rw [Bool.and_eq_false_iff]
              by_cases h0 : 0 < gp
              · exact .inr (by have : ¬ k + B.2 + gp < ss.length := fun h => hc ⟨h0, h⟩; simp [this])
              · exact .inl (decide_eq_false h0)
            rw [this]; simp)
        clear hgp
        by_cases hg0 : 0 < gp
        · by_cases hkk : k + B.2 + gp < ss.length
          · rw [if_pos ⟨hg0, hkk⟩] at hstep
            go_wp2_with (go_at_call 84; refine hCB.out.mono ?_; rintro e w' ⟨rfl, rfl⟩)
            go_roundw
            case rel =>
              refine ⟨k + B.2 + gp, f - 1, ps ++ [(B.1.put (k : Int), Value.slice ka kn kc, (⟨some ⟨b, o + k, none⟩, B.2, cap - k⟩ : Ext))], some ⟨g, 0, none⟩, cap1, _, by omega, by rw [List.length_append]; rfl, rfl, by go_num, ?_, hsn.out _⟩
              have hst := hstepRel.out
              have e : (ps ++ [(B.1.put (k : Int), Value.slice ka kn kc, (⟨some ⟨b, o + k, none⟩, B.2, cap - k⟩ : Ext))]).length = ps.length + 1 := by simp
              have h1 := hst.2.1
              refine ⟨hstep.out, by have := hrelH.out.fuel; omega, ?_, hst.1, hst.2.2, by rw [e]; omega⟩
              rw [e] at h1 ⊢; exact h1
            case measure => simp [intOf]; omega
          · rw [if_neg (fun h => hkk h.2)] at hstep
            go_wp2_with (go_at_call 84; refine hCB.out.mono ?_; rintro e w' ⟨rfl, rfl⟩)
            go_roundw
            case rel =>
              refine ⟨k + B.2 + gp, f - 1, ps ++ [(B.1.put (k : Int), Value.slice ka kn kc, (⟨some ⟨b, o + k, none⟩, B.2, cap - k⟩ : Ext))], some ⟨g, 0, none⟩, cap1, _, by omega, by rw [List.length_append]; rfl, rfl, by go_num, ?_, hsn.out _⟩
              have hst := hstepRel.out
              have e : (ps ++ [(B.1.put (k : Int), Value.slice ka kn kc, (⟨some ⟨b, o + k, none⟩, B.2, cap - k⟩ : Ext))]).length = ps.length + 1 := by simp
              have h1 := hst.2.1
              refine ⟨hstep.out, by have := hrelH.out.fuel; omega, ?_, hst.1, hst.2.2, by rw [e]; omega⟩
              rw [e] at h1 ⊢; exact h1
            case measure => simp [intOf]; omega
        · rw [if_neg (fun h => hg0 h.1)] at hstep
          go_wp2_with (go_at_call 84; refine hCB.out.mono ?_; rintro e w' ⟨rfl, rfl⟩)
          go_roundw
          case rel =>
            refine ⟨k + B.2 + gp, f - 1, ps ++ [(B.1.put (k : Int), Value.slice ka kn kc, (⟨some ⟨b, o + k, none⟩, B.2, cap - k⟩ : Ext))], some ⟨g, 0, none⟩, cap1, _, by omega, by rw [List.length_append]; rfl, rfl, by go_num, ?_, hsn.out _⟩
            have hst := hstepRel.out
            have e : (ps ++ [(B.1.put (k : Int), Value.slice ka kn kc, (⟨some ⟨b, o + k, none⟩, B.2, cap - k⟩ : Ext))]).length = ps.length + 1 := by simp
            have h1 := hst.2.1
            refine ⟨hstep.out, by have := hrelH.out.fuel; omega, ?_, hst.1, hst.2.2, by rw [e]; omega⟩
            rw [e] at h1 ⊢; exact h1
          case measure => simp [intOf]; omega
      · have hle1 : ss.length ≤ k + B.2 := by omega
        have hle3 : k + B.2 ≤ ss.length := by omega
        obtain rfl : cap = k + B.2 := by omega
        have hCB : Hid (Calls Tryz.prog 84 #[.slice (some ⟨b, o, none⟩) 0 0] w2 fun e w' => e = .returned (.int .i64 0) ∧ w2 = w') := hid (by
          have := countBlank_any b o 0 [] w2 (by simp) (fun i s h => by simp at h)
          exact this.mono (fun e w' ⟨h1, h2⟩ => ⟨h1, h2.symm⟩))
        have hstep : Hid (S.readRow (d + 1) (dat ss) = ((ps ++ [(B.1.put (k : Int), Value.slice ka kn kc, (⟨some ⟨b, o + k, none⟩, B.2, k + B.2 - k⟩ : Ext))]).map Prod.fst ++ (S.rowFrom (S.readRow d) ss.length (f - 1) ((dat ss).drop (k + B.2))).1, pb || (S.rowFrom (S.readRow d) ss.length (f - 1) ((dat ss).drop (k + B.2))).2)) := hid (by
          rw [hrelH.out.spec]
          obtain ⟨f', hf'⟩ : ∃ f', f = f' + 1 := ⟨f - 1, by have := hrelH.out.fuel; omega⟩
          have e1 : ((dat ss).drop k).drop B.2 = [] := by rw [List.drop_drop]; exact List.drop_eq_nil_of_le (by rw [dat_length]; omega)
          have e2 : (dat ss).drop (k + B.2) = [] := List.drop_eq_nil_of_le (by rw [dat_length]; omega)
          have hln : ((ss.length - ((dat ss).drop k).length : Nat) : Int) = (k : Int) := by rw [List.length_drop, dat_length]; omega
          rw [hf', S.rowFrom_step _ _ _ _ hneD.out, hBH.out, hln, e1, e2, ← List.drop_drop, e1]
          simp [S.countBlank])
        clear hkc2
        go_wp2_with (go_at_call 84; refine hCB.out.mono ?_; rintro e w' ⟨rfl, rfl⟩)
        go_roundw
        case rel =>
          refine ⟨k + B.2, f - 1, ps ++ [(B.1.put (k : Int), Value.slice ka kn kc, (⟨some ⟨b, o + k, none⟩, B.2, k + B.2 - k⟩ : Ext))], some ⟨g, 0, none⟩, cap1, _, by omega, by rw [List.length_append]; rfl, rfl, by go_num, ?_, hsn.out _⟩
          have hst := hstepRel.out
          have e : (ps ++ [(B.1.put (k : Int), Value.slice ka kn kc, (⟨some ⟨b, o + k, none⟩, B.2, k + B.2 - k⟩ : Ext))]).length = ps.length + 1 := by simp
          have h1 := hst.2.1
          refine ⟨hstep.out, by have := hrelH.out.fuel; omega, ?_, hst.1, hst.2.2, by rw [e]; omega⟩
          rw [e] at h1 ⊢; exact h1
        case measure => simp [intOf]; omega
    · have hkl : k = ss.length := by omega
      have hfin := hrelH.out.spec
      rw [List.drop_eq_nil_of_le (by rw [dat_length]; omega), S.rowFrom_nil, List.append_nil, Bool.or_false] at hfin
      have hfinH := hid hfin
      have hrepF : Hid (Rep wr (fun x => w.heap.size ≤ x ∧ x < wr.heap.size) (.slice a ps.length cp) (ps.map Prod.fst)) := hid (rep_of_owns hrelH.out.own (fun g hg => hrelH.out.own.lt g hg) (fun i p hp => (hrelH.out.kids i p hp).move (fun x hx => ⟨hx.1, hx.2.1⟩) (fun _ _ => rfl)))
      have hlinF : Hid (LinesIn b o cap d ss wr (.slice a ps.length cp)) := hid (by unfold LinesIn; rw [hfin]; exact lines_of_owns hrelH.out.own hsrcH.out)
      clear hfin hkl
      go_wp2
      go_ret2
      refine ⟨.slice a ps.length cp, ?_, ?_, hrelH.out.below, hlinF.out⟩
      · rw [hfinH.out]; rfl
      · rw [hfinH.out]; exact hrepF.out

end Go.Proofs.YtlojgpkajkedeaaGreatDoor
