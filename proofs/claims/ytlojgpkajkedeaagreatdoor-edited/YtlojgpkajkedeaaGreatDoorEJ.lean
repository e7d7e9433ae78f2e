import Derived.Test.YtlojgpkajkedeaaGreatDoorEF
/- A sheet's text is set: the walk. -/
namespace Go.Proofs.YtlojgpkajkedeaaGreatDoor
open Go.RowKit

theorem fitL_mem (ts : List S.Blk) (h : ∀ b ∈ ts, 1 ≤ b.kind ∧ b.kind ≤ 6) (j : Nat) (t : S.Blk) (ht : ts[j]? = some t) : 1 ≤ t.kind ∧ t.kind ≤ 6 := h t (List.mem_of_getElem? ht)
theorem pgL_get (ts : List S.Blk) (j : Nat) (t : S.Blk) (ht : ts[j]? = some t) : pgB t ≤ pgL ts := by
  have h1 := pgL_take_le ts (j + 1)
  rw [pgL_take ts j t ht] at h1
  omega
theorem lnB_kids {t : S.Blk} (h : lnB t) : lnL t.kids := by
  cases t; simp only [lnB] at h; exact h.2.2

set_option maxRecDepth 100000 in
set_option maxHeartbeats 8000000 in
theorem setText_any (sb : Nat) (t0 s : ByteArray) (a : Option Addr) (cp : Nat) (ps : List Pm) (w : World) (hs : s.size ≤ 1500) (hsh : w.heap[sb]? = some (.cells #[.string t0, .slice a ps.length cp] 94 (0, 0))) (hpl : ps.length ≤ 1000000) (hat : PcAt (fun x => sb < x) w a ps) (hof : ∀ (i : Nat) (p : Pm), ps[i]? = some p → ∃ t, PcOf (fun x => sb < x) w p t) (henv : EnvP sb w) :
    Calls Tryz.prog 58 #[.pointer (some ⟨sb, 0, none⟩), .string s] w fun e w' => e = .returned (.tuple #[]) ∧ Below sb w w' ∧ SheetIn sb w' s := by
  obtain ⟨i0, hi, hz0, hz1, hz2⟩ := info_parts Tryz.infoPiece
  have hsb : sb < w.heap.size := (Array.getElem?_eq_some_iff.1 hsh).1
  have hR := hid (read_lines s w (by omega) henv.1)
  have hlt := S.lines_tt s.data.toList
  rw [S.length_data] at hlt
  have hwl := readRow_well (s.size + 1) (S.lines s.data.toList) (by omega)
  have hln := readRow_ln (s.size + 1) (S.lines s.data.toList) (by omega)
  have hbl := blks_len s hs
  have hfin : Hid (∀ w1 wr, Below w.heap.size w w1 → ∀ (a' : Option Addr) (n' cp' : Nat), SetRel sb w1 (blksOf s) (blksOf s).length a' n' cp' wr → Below sb w ((wr.setCell ⟨sb, 0, none⟩ (.string s)).setCell ⟨sb, 1, none⟩ (.slice a' n' cp')) ∧ SheetIn sb ((wr.setCell ⟨sb, 0, none⟩ (.string s)).setCell ⟨sb, 1, none⟩ (.slice a' n' cp')) s) := hid (fun w1 wr hb1 a' n' cp' hrel => by
    obtain ⟨qs, rfl, hqj, hown, hbel, hall⟩ := hrel
    have hbw := hb1.trans (hbel.mono hb1.size)
    have hsz := hb1.size
    have hmv : Moves (fun x => sb < x ∧ (Value.slice a' qs.length cp').ownBlock ≠ some x) (fun x => sb < x) wr ((wr.setCell ⟨sb, 0, none⟩ (.string s)).setCell ⟨sb, 1, none⟩ (.slice a' qs.length cp')) :=
      ⟨by simp [World.setCell], fun x hx _ => ⟨hx.1, by rw [Below.heap_setCell _ _ _ _ (by show x ≠ sb; omega), Below.heap_setCell _ _ _ _ (by show x ≠ sb; omega)]⟩⟩
    have hx := (hbw.block sb hsb).trans hsh
    refine ⟨((hbw.mono (Nat.le_of_lt hsb)).setCell (p := ⟨sb, 0, none⟩) (Nat.le_refl _) _).setCell (p := ⟨sb, 1, none⟩) (Nat.le_refl _) _, hs, a', cp', qs, ?_, hqj, ?_, ?_⟩
    · exact set_blk (cs := [.string s, .slice a ps.length cp]) (set_blk (cs := [.string t0, .slice a ps.length cp]) hx 0 _) 1 _
    · exact ((pcAt_of hown (A := fun x => sb < x) (fun g hg => by show sb < g; omega)).move (Moves.set sb 0 wr _)).move (Moves.set sb 1 _ _)
    · intro i p t hp ht
      exact (hall i p t hp ht).move hmv)
  have hshH := hid hsh
  have hatH := hid hat
  have hofH := hid hof
  have henvH := hid henv
  have hwlH : Hid (∀ j t, (blksOf s)[j]? = some t → fitB t ∧ lnL t.kids ∧ (1 ≤ t.kind ∧ t.kind ≤ 6) ∧ pgB t ≤ 100000000) := hid (fun j t ht => by
    refine ⟨fitL_get _ hwl.1 j t ht, lnB_kids (lnL_get _ hln j t ht), fitL_mem _ hwl.2.2 j t ht, ?_⟩
    have h1 := pgL_get _ j t ht
    have h2 := hwl.2.1
    unfold blksOf at h1
    omega)
  clear hsh hat hof henv hwl hln hlt
  go_enter Tryz.func58, Tryz.ntmps58
  go_wp2_with fail
  refine hR.out.mono ?_
  rintro e w1 ⟨v, rfl, hin⟩
  obtain ⟨ka, kn, kc, rfl⟩ := hin.1.form
  obtain ⟨hkn, hview⟩ := blk_at hin
  have hb1H := hid hin.2.1
  have hw1 : w.heap.size ≤ w1.heap.size := hin.2.1.size
  obtain ⟨ts, hts⟩ : ∃ ts, blksOf s = ts := ⟨_, rfl⟩
  rw [hts] at hkn hview hbl hfin hwlH
  have hviewH := hid hview
  clear hin hview hts
  subst hkn
  go_wp2
  go_loopw [4, 5, 7, 8, 9, 13] (fun vl vn _ _ _ i wr => ∃ (j nx n' : Nat) (a' : Option Addr) (cp' : Nat), j ≤ ts.length ∧ nx ≤ ps.length ∧ i = .int .i64 j ∧ vl = .slice a' n' cp' ∧ vn = .int .i64 nx ∧ Hid (SetRel sb w1 ts j a' n' cp' wr)) (fun _ _ _ _ _ i _ => ts.length - (intOf i).toNat)
  case atStart => exact ⟨0, 0, 0, none, 0, Nat.zero_le _, Nat.zero_le _, rfl, rfl, rfl, hid ⟨[], rfl, rfl, World.ownsRow_nil _ _ _ _, Below.refl _ _, fun i q t hq => by simp at hq⟩⟩
  case round =>
    obtain ⟨j, nx, n', a', cp', hj, hnx, rfl, rfl, rfl, hrel'⟩ := hrel
    by_cases hlt : j < ts.length
    · obtain ⟨qs, hn, hqj, hown, hbel, hall⟩ := hrel'.out
      clear hrel'
      subst hn
      obtain ⟨t, ht⟩ : ∃ t, ts[j]? = some t := ⟨ts[j], List.getElem?_eq_getElem hlt⟩
      obtain ⟨g, b, k, lc, qss, a2, n2, cp2, rfl, hg0, hg1, hrk, hcell, hownb, hrs, hb0, hb1, hql⟩ := hviewH.out j t ht
      obtain ⟨hfit, hlnk, hkd, hpg⟩ := hwlH.out j t ht
      have hwr1 : w1.heap.size ≤ wr.heap.size := hbel.size
      have hcr : ∀ i u, (blk8 t (some ⟨b, k, none⟩) qss.length lc a2 n2 cp2)[i]? = some u → wr.cell? ⟨g, j * 8 + i, none⟩ = some u := fun i u hu => (hbel.cell (p := ⟨g, j * 8 + i, none⟩) hg1).trans (hcell i u hu)
      obtain ⟨X2, hX2⟩ : ∃ X2, X2 = Obj.cells #[.int .i64 t.kind, .int .i64 t.line, .slice (some ⟨b, k, none⟩) qss.length lc, .int .i64 t.n, .string (S.B t.info), .string (S.B t.text), .bool t.loose, .slice a2 n2 cp2] 110 := ⟨_, rfl⟩
      obtain ⟨W2, hW2⟩ : ∃ W2, W2 = wr.alloc X2 := ⟨_, rfl⟩
      have hz2' : W2.heap.size = wr.heap.size + 1 := by rw [hW2]; simp
      have hb2 : Below wr.heap.size wr W2 := by rw [hW2]; exact (Below.refl _ _).alloc (Nat.le_refl _) _
      have hx2 : W2.heap[wr.heap.size]? = some (.cells #[.int .i64 t.kind, .int .i64 t.line, .slice (some ⟨b, k, none⟩) qss.length lc, .int .i64 t.n, .string (S.B t.info), .string (S.B t.text), .bool t.loose, .slice a2 n2 cp2] 110 (0, 0)) := by rw [hW2, hX2]; exact alloc_new _ _
      have hWl : wr.heap.size < W2.heap.size := by omega
      have hbX : Hid (∀ wx, After W2 wx → Below wr.heap.size wr wx ∧ Below w1.heap.size w1 wx ∧ Below w.heap.size w wx ∧ wx.heap[wr.heap.size]? = some (.cells #[.int .i64 t.kind, .int .i64 t.line, .slice (some ⟨b, k, none⟩) qss.length lc, .int .i64 t.n, .string (S.B t.info), .string (S.B t.text), .bool t.loose, .slice a2 n2 cp2] 110 (0, 0))) := hid (fun wx hx => by
        have h1 := hb2.trans (Below.mono hx (by omega))
        have h2 := hbel.trans (h1.mono hwr1)
        exact ⟨h1, h2, hb1H.out.trans (h2.mono hw1), (hx.block _ hWl).trans hx2⟩)
      have hOf : Hid (∀ wx, After W2 wx → Calls Tryz.prog 76 #[.slice (some ⟨b, k, none⟩) qss.length lc] wx fun e w3 => ∃ x y, e = .returned (.agg #[.int .u64 x, .int .u64 y]) ∧ (w3.cell? ⟨wr.heap.size, 2, none⟩ = some (.slice (some ⟨b, k, none⟩) qss.length lc) ∧ w3.cell? ⟨wr.heap.size, 1, none⟩ = some (.int .i64 t.line)) ∧ wr.heap.size < w3.heap.size ∧ W2.heap.size ≤ w3.heap.size ∧ wx.heap.size ≤ w3.heap.size ∧ Hid (Below wx.heap.size wx w3)) := hid (fun wx hx => by
        have h2 := (hbX.out wx hx).2.1
        refine (of_any b k lc qss wx (Nat.lt_of_lt_of_le hb1 h2.size) (hrs.below h2 hb1) hql).mono ?_
        rintro e w3 ⟨x, y, rfl, hb3⟩
        have h4 : After W2 w3 := Below.trans hx (hb3.mono hx.size)
        have h5 := (hbX.out w3 h4).2.2.2
        have h6 := h4.size
        exact ⟨x, y, rfl, ⟨cell_blk h5 2 _ rfl, cell_blk h5 1 _ rfl⟩, by omega, h6, hb3.size, hid hb3⟩)
      have x1 : W2.cell? ⟨wr.heap.size, 1, none⟩ = some (.int .i64 t.line) := cell_blk hx2 1 _ rfl
      have x2 : W2.cell? ⟨wr.heap.size, 2, none⟩ = some (.slice (some ⟨b, k, none⟩) qss.length lc) := cell_blk hx2 2 _ rfl
      have d0 := hcr 0 _ rfl
      have d1 := hcr 1 _ rfl
      have d2 := hcr 2 _ rfl
      have d3 := hcr 3 _ rfl
      have d4 := hcr 4 _ rfl
      have d5 := hcr 5 _ rfl
      have d6 := hcr 6 _ rfl
      have d7 := hcr 7 _ rfl
      rw [Nat.add_zero] at d0
      have hX2H := hid hX2
      have hW2H := hid hW2
      have hownH := hid hown
      have hbelH := hid hbel
      have hallH := hid hall
      have hrkH := hid hrk
      have hownbH := hid hownb
      have hrsH := hid hrs
      have hfitH := hid hfit
      have hlnkH := hid hlnk
      have htH := hid ht
      have hqjH := hid hqj
      have hz2H := hid hz2'
      clear hX2 hW2 hown hbel hall hrk hownb hrs hfit hlnk hcell hcr hx2 hb2 ht hqj hz2'
      obtain ⟨tk, htk⟩ : ∃ tk, t.kind = tk := ⟨_, rfl⟩
      obtain ⟨tl, htl⟩ : ∃ tl, t.line = tl := ⟨_, rfl⟩
      obtain ⟨tn, htn⟩ : ∃ tn, t.n = tn := ⟨_, rfl⟩
      obtain ⟨tf, htf⟩ : ∃ tf, S.B t.info = tf := ⟨_, rfl⟩
      obtain ⟨tt, htt⟩ : ∃ tt, S.B t.text = tt := ⟨_, rfl⟩
      obtain ⟨tlo, hto⟩ : ∃ tlo, t.loose = tlo := ⟨_, rfl⟩
      rw [htk] at d0 hX2H hbX
      rw [htl] at d1 hX2H hbX hOf x1
      rw [htn] at d3 hX2H hbX
      rw [htf] at d4 hX2H hbX
      rw [htt] at d5 hX2H hbX
      rw [hto] at d6 hX2H hbX
      have htkH := hid htk
      have htlH := hid htl
      have htnH := hid htn
      have htfH := hid htf
      have httH := hid htt
      have htoH := hid hto
      clear htk htl htn htf htt hto
      go_upto_region 5 with fail
      rw [← hX2H.out, ← hW2H.out]
      go_cut [8] (fun s8 wx => ∃ (pb : Nat) (x y : Int), s8 = .pointer (some ⟨pb, 0, none⟩) ∧ Hid (MidP W2 pb [.slice (some ⟨b, k, none⟩) qss.length lc, .int .u64 x, .int .u64 y, .int .i64 tl, .string ⟨#[]⟩, .slice none 0 0] wx))
      case first =>
        have hn1 : ¬ W2.heap.size = wr.heap.size := by omega
        have hn2 : ¬ wr.heap.size = W2.heap.size := by omega
        go_region_held3 (fun w' => w'.cell? ⟨wr.heap.size, 2, none⟩ = some (.slice (some ⟨b, k, none⟩) qss.length lc) ∧ w'.cell? ⟨wr.heap.size, 1, none⟩ = some (.int .i64 tl))
          ((refine ⟨?_, ?_⟩ <;> (first | with_reducible assumption | go_keep)))
          ((go_at_call 76; refine (hOf.out _ (by repeat (first | exact Below.refl _ _ | refine Below.drew ?_ | refine Below.alloc ?_ (by simp) _))).mono ?_; rintro e w3 ⟨x, y, rfl, ⟨y2, y1⟩, hz3, hz4, hz5, hb3⟩; obtain ⟨hc3, hf3⟩ := bcell hb3.out; have hn3 : ¬ w3.heap.size = wr.heap.size := (by omega)))
        all_goals (go_wp2_with fail; go_meet)
        · exact ⟨_, x, y, rfl, hid (midA (by repeat (first | exact Below.refl _ _ | refine Below.drew ?_ | refine Below.alloc ?_ (by simp) _)) hb3.out)⟩
        · exact ⟨_, x, y, rfl, hid (midB (by repeat (first | exact Below.refl _ _ | refine Below.drew ?_ | refine Below.alloc ?_ (by simp) _)) (by simp) ⟨[.slice none 0 0, .int .u64 0, .int .u64 0, .int .i64 0, .string ⟨#[]⟩, .slice none 0 0], rfl, (by exact alloc_new _ _)⟩ hb3.out)⟩
      case rest =>
      obtain ⟨pb, x, y, rfl, hmid⟩ := hcut
      clear d0 d1 d2 d3 d4 d5 d6 d7 x1 x2 hOf hX2H hW2H
      obtain ⟨hpb0, hbc, hpbx⟩ := hmid.out
      have hbC := hbX.out wc hbc
      have hplc : pb < wc.heap.size := (Array.getElem?_eq_some_iff.1 hpbx).1
      have hsbc : sb < wc.heap.size := Nat.lt_of_lt_of_le hsb hbC.2.2.1.size
      have hsx := (hbC.2.2.1.block sb hsb).trans hshH.out
      have c1 : wc.cell? ⟨sb, 1, none⟩ = some (.slice a ps.length cp) := cell_blk hsx 1 _ rfl
      have p0 : wc.cell? ⟨pb, 0, none⟩ = some (.slice (some ⟨b, k, none⟩) qss.length lc) := cell_blk hpbx 0 _ rfl
      have p1 : wc.cell? ⟨pb, 1, none⟩ = some (.int .u64 x) := cell_blk hpbx 1 _ rfl
      have p2 : wc.cell? ⟨pb, 2, none⟩ = some (.int .u64 y) := cell_blk hpbx 2 _ rfl
      have p3 : wc.cell? ⟨pb, 3, none⟩ = some (.int .i64 tl) := cell_blk hpbx 3 _ rfl
      have p4 : wc.cell? ⟨pb, 4, none⟩ = some (.string ⟨#[]⟩) := cell_blk hpbx 4 _ rfl
      have p5 : wc.cell? ⟨pb, 5, none⟩ = some (.slice none 0 0) := cell_blk hpbx 5 _ rfl
      have hFP : Hid (∀ wx, After wc wx → Calls Tryz.prog 77 #[.slice a ps.length cp, .int .i64 nx, .agg #[.slice (some ⟨b, k, none⟩) qss.length lc, .int .u64 x, .int .u64 y, .int .i64 tl, .string ⟨#[]⟩, .slice none 0 0]] wx fun e w4 => ∃ r : Int, e = .returned (.int .i64 r) ∧ (w4.cell? ⟨sb, 1, none⟩ = some (.slice a ps.length cp) ∧ w4.cell? ⟨pb, 0, none⟩ = some (.slice (some ⟨b, k, none⟩) qss.length lc) ∧ w4.cell? ⟨pb, 1, none⟩ = some (.int .u64 x) ∧ w4.cell? ⟨pb, 2, none⟩ = some (.int .u64 y) ∧ w4.cell? ⟨pb, 3, none⟩ = some (.int .i64 tl) ∧ w4.cell? ⟨pb, 4, none⟩ = some (.string ⟨#[]⟩) ∧ w4.cell? ⟨pb, 5, none⟩ = some (.slice none 0 0)) ∧ Hid (After wc w4 ∧ (r = -1 ∨ ∃ (m : Nat) (p : Pm), r = m ∧ ps[m]? = some p ∧ p.ss = qss))) := hid (fun wx hx => by
        have hwx : Below w.heap.size w wx := hbC.2.2.1.trans (Below.mono hx hbC.2.2.1.size)
        have hwx1 : Below w1.heap.size w1 wx := hbC.2.1.trans (Below.mono hx hbC.2.1.size)
        have h1 := find_any ps a cp nx ⟨b, k, lc, qss, x, y, tl, ⟨#[]⟩, .slice none 0 0⟩ wx ((hatH.out.move (.of hwx)).row (fun i p hp => by obtain ⟨t', h⟩ := hofH.out i p hp; exact ⟨t', h.move (.of hwx)⟩)) (hrsH.out.below hwx1 hb1) (Nat.lt_of_lt_of_le hb1 hwx1.size) hql hpl hnx
        refine h1.mono ?_
        rintro e w4 ⟨r, rfl, hb4, hr⟩
        have h4 : After wc w4 := Below.trans hx (hb4.mono hx.size)
        have hp4 := (h4.block pb hplc).trans hpbx
        exact ⟨r, rfl, ⟨(h4.cell (p := ⟨sb, 1, none⟩) hsbc).trans c1, cell_blk hp4 0 _ rfl, cell_blk hp4 1 _ rfl, cell_blk hp4 2 _ rfl, cell_blk hp4 3 _ rfl, cell_blk hp4 4 _ rfl, cell_blk hp4 5 _ rfl⟩, hid ⟨h4, hr⟩⟩)
      have hbCH := hid hbC
      have hbcH := hid hbc
      have hpbxH := hid hpbx
      clear hbC hsx hmid hbc hpbx
      go_wp2_with fail
      go_region_held3 (fun w' => w'.cell? ⟨sb, 1, none⟩ = some (.slice a ps.length cp) ∧ w'.cell? ⟨pb, 0, none⟩ = some (.slice (some ⟨b, k, none⟩) qss.length lc) ∧ w'.cell? ⟨pb, 1, none⟩ = some (.int .u64 x) ∧ w'.cell? ⟨pb, 2, none⟩ = some (.int .u64 y) ∧ w'.cell? ⟨pb, 3, none⟩ = some (.int .i64 tl) ∧ w'.cell? ⟨pb, 4, none⟩ = some (.string ⟨#[]⟩) ∧ w'.cell? ⟨pb, 5, none⟩ = some (.slice none 0 0))
        (first | exact ⟨c1, p0, p1, p2, p3, p4, p5⟩ | exact ⟨z1, q0, q1, q2, q3, q4, q5⟩)
        ((go_at_call 77; refine (hFP.out _ (by repeat (first | exact Below.refl _ _ | refine Below.drew ?_))).mono ?_; rintro e w4 ⟨r, rfl, ⟨z1, q0, q1, q2, q3, q4, q5⟩, hr⟩))
      clear c1 p0 p1 p2 p3 p4 p5 hFP
      have h4 : After wc w4 := hr.out.1
      have hA4 : After W2 w4 := Below.trans hbcH.out (Below.mono h4 hbcH.out.size)
      have hb4H := hid (hbX.out w4 hA4)
      have hpb4 := (h4.block pb hplc).trans hpbxH.out
      have hpl4 : pb < w4.heap.size := Nat.lt_of_lt_of_le hplc h4.size
      have hz4 : w1.heap.size ≤ w4.heap.size := hb4H.out.2.1.size
      have hcnt : qs.length + 1 ≤ 1000000 := by have := hqjH.out; omega
      have hwrpb : wr.heap.size < pb := by have := hz2H.out; omega
      -- what is appended
      have hApp : Hid (∀ w5 ob, Below wr.heap.size wr w5 → (w5.alloc ob).ownsRow w1.heap.size 101 6 (.slice a' qs.length cp') qs.length (pcCells qs)) := hid (fun w5 ob h5 => (hownH.out.kept (Below.toGrown h5) (by
        cases h : (Value.slice a' qs.length cp').ownBlock with
        | none => exact .inl rfl
        | some g => exact .inr (by simp))).alloc ob)
      have hnew : Hid (∀ (w5 : World) (pg : ByteArray) (tv : Value) j u, ([.slice (some ⟨b, k, none⟩) qss.length lc, .int .u64 x, .int .u64 y, .int .i64 tl, .string pg, tv] : List Value)[j]? = some u → (w5.alloc (.cells #[.slice (some ⟨b, k, none⟩) qss.length lc, .int .u64 x, .int .u64 y, .int .i64 tl, .string pg, tv] 101)).cell? ((⟨w5.heap.size, 0, none⟩ : Addr).add j) = some u) := hid (fun w5 pg tv j u hj => World.news_of_block (alloc_new _ _) j u (by exact hj))
      have hone : Hid (∀ (pg : ByteArray) (a5 : Option Addr) (n5 cp5 : Nat), ∀ u ∈ ([.slice (some ⟨b, k, none⟩) qss.length lc, .int .u64 x, .int .u64 y, .int .i64 tl, .string pg, .slice a5 n5 cp5] : List Value), u.oneCell' = true) := hid (by
        intro pg a5 n5 cp5 u hu; simp at hu; rcases hu with rfl | rfl | rfl | rfl | rfl | rfl <;> rfl)
      have htq : Hid (ts[qs.length]? = some t) := hid (by rw [hqjH.out]; exact htH.out)
      have hj1 : Hid (qs.length + 1 = j + 1) := hid (by rw [hqjH.out])
      -- its kind of blocks
      have hknd : Hid (∀ g', w1.heap.size ≤ g' ∨ True → (sb < g' ∧ (wr.heap.size ≤ g' ∨ g' < w1.heap.size)) → sb < g' ∧ (Value.slice a' qs.length cp').ownBlock ≠ some g') := hid (fun g' _ h => ⟨h.1, fun e => by
        have := hownH.out.lt g' e
        rcases h.2 with h2 | h2 <;> omega⟩)
      have hlinK : Hid (sb < b ∧ (Value.slice a' qs.length cp').ownBlock ≠ some b) := hid (hknd.out b (.inr trivial) ⟨by omega, .inr hb1⟩)
      obtain hr2 := hr.out.2
      clear hr
      rcases hr2 with rfl | ⟨m, p, rfl, hpm, hpss⟩
      · have hWr : Hid (Calls Tryz.prog 78 #[.pointer (some ⟨pb, 0, none⟩), .agg #[.int .i64 tk, .int .i64 tl, .slice (some ⟨b, k, none⟩) qss.length lc, .int .i64 tn, .string tf, .string tt, .bool tlo, .slice a2 n2 cp2]] w4 fun e w5 => ∃ (pg : ByteArray) (a5 : Option Addr) (n5 cp5 : Nat), e = .returned (.tuple #[]) ∧ w5.heap[pb]? = some (.cells #[.slice (some ⟨b, k, none⟩) qss.length lc, .int .u64 x, .int .u64 y, .int .i64 tl, .string pg, .slice a5 n5 cp5] 101 (0, 0)) ∧ Hid (Below wr.heap.size wr w5 ∧ PcOf (fun x => sb < x ∧ (Value.slice a' qs.length cp').ownBlock ≠ some x) w5 ⟨b, k, lc, qss, x, y, tl, pg, .slice a5 n5 cp5⟩ t)) := hid (by
          have hrep4 : Rep w4 (fun x => w.heap.size ≤ x ∧ x < w1.heap.size) (.slice a2 n2 cp2) t.kids := hrkH.out.move (fun x hx => hx) (fun x hx => hb4H.out.2.1.block x hx.2)
          have hE4 : EnvP pb w4 := (henvH.out.below (hb4H.out.2.2.1.mono (by omega))).mono (by omega)
          have := pcwrite_any pb _ _ _ _ _ _ t (some ⟨b, k, none⟩) qss.length lc a2 n2 cp2 (fun x => w.heap.size ≤ x ∧ x < w1.heap.size) w4 hpb4 (fun x hx => by omega) hrep4 hE4 hfitH.out hlnkH.out hkd hpg
          rw [htkH.out, htlH.out, htnH.out, htfH.out, httH.out, htoH.out] at this
          refine this.mono ?_
          rintro e w5 ⟨rfl, hb5, a5, cp5, B', hB', hx5, hT5⟩
          have h45 : Below wr.heap.size wr w5 := hb4H.out.1.trans (hb5.mono (by omega))
          have h15 := hb4H.out.2.1.trans (hb5.mono (by omega))
          refine ⟨_, a5, _, cp5, rfl, hx5, hid ⟨h45, hownbH.out, htlH.out.symm, rfl, ⟨a5, cp5, rfl, hT5.row (fun g' hg' => hknd.out g' (.inr trivial) ⟨by omega, .inl (by omega)⟩)⟩, hlinK.out, Nat.lt_of_lt_of_le hb1 h15.size, hrsH.out.below h15 hb1, hql⟩⟩)
        have hx4 := hb4H.out.2.2.2
        have e0 : w4.cell? ⟨wr.heap.size, 0, none⟩ = some (.int .i64 tk) := cell_blk hx4 0 _ rfl
        have e1 : w4.cell? ⟨wr.heap.size, 1, none⟩ = some (.int .i64 tl) := cell_blk hx4 1 _ rfl
        have e2 : w4.cell? ⟨wr.heap.size, 2, none⟩ = some (.slice (some ⟨b, k, none⟩) qss.length lc) := cell_blk hx4 2 _ rfl
        have e3 : w4.cell? ⟨wr.heap.size, 3, none⟩ = some (.int .i64 tn) := cell_blk hx4 3 _ rfl
        have e4 : w4.cell? ⟨wr.heap.size, 4, none⟩ = some (.string tf) := cell_blk hx4 4 _ rfl
        have e5 : w4.cell? ⟨wr.heap.size, 5, none⟩ = some (.string tt) := cell_blk hx4 5 _ rfl
        have e6 : w4.cell? ⟨wr.heap.size, 6, none⟩ = some (.bool tlo) := cell_blk hx4 6 _ rfl
        have e7 : w4.cell? ⟨wr.heap.size, 7, none⟩ = some (.slice a2 n2 cp2) := cell_blk hx4 7 _ rfl
        clear hx4 hpb4 h4 hA4 z1 q0 q1 q2 q3 q4 q5
        go_wp2_with fail
        refine hWr.out.mono ?_
        rintro e w5 ⟨pg, a5, n5, cp5, rfl, hx5, hP5⟩
        have q0 : w5.cell? ⟨pb, 0, none⟩ = some (.slice (some ⟨b, k, none⟩) qss.length lc) := cell_blk hx5 0 _ rfl
        have q1 : w5.cell? ⟨pb, 1, none⟩ = some (.int .u64 x) := cell_blk hx5 1 _ rfl
        have q2 : w5.cell? ⟨pb, 2, none⟩ = some (.int .u64 y) := cell_blk hx5 2 _ rfl
        have q3 : w5.cell? ⟨pb, 3, none⟩ = some (.int .i64 tl) := cell_blk hx5 3 _ rfl
        have q4 : w5.cell? ⟨pb, 4, none⟩ = some (.string pg) := cell_blk hx5 4 _ rfl
        have q5 : w5.cell? ⟨pb, 5, none⟩ = some (.slice a5 n5 cp5) := cell_blk hx5 5 _ rfl
        have hz5 : w1.heap.size ≤ w5.heap.size := by have := hP5.out.1.size; omega
        clear hx5 hWr e0 e1 e2 e3 e4 e5 e6 e7
        go_wp2_with (at_builtin; refine wpList_append_lies _ (by rfl) _ _ 92 (by rfl) w1.heap.size 101 i0 (.agg #[.slice none 0 0, .int .u64 0, .int .u64 0, .int .i64 0, .string ⟨#[]⟩, .slice none 0 0]) 6 88 Tryz.underlying92 hi hz0 hz1 hz2 (by rfl) (by omega) (.slice a' qs.length cp') qs.length (pcCells qs) (by rfl) (hApp.out _ _ hP5.out.1) ⟨w5.heap.size, 0, none⟩ 1 1 [.slice (some ⟨b, k, none⟩) qss.length lc, .int .u64 x, .int .u64 y, .int .i64 tl, .string pg, .slice a5 n5 cp5] (by rfl) (by rfl) (hnew.out _ _ _) (hone.out _ _ _ _) (by omega) (by unfold maxLen; omega) (by omega) (by simp; omega) (w5.heap.size + 1) (by simp) ?_)
        intro g3 cap3 w6 hown3 hgrow3 hat3 hltg3
        have hst := hid (set_step (.inl rfl) hownH.out hbelH.out hallH.out hP5.out.1 htq.out hP5.out.2 hown3 hgrow3 hat3)
        rw [hj1.out] at hst
        clear hown3 hgrow3 hat3 hltg3 hP5 q0 q1 q2 q3 q4 q5
        go_wp2_with fail
        go_roundw
        case rel => exact ⟨j + 1, nx, qs.length + 1, some ⟨g3, 0, none⟩, cap3, by omega, hnx, by go_num, rfl, rfl, by rw [hj1.out]; exact hst⟩
        case measure => simp [intOf]; omega
      · have hml : m < ps.length := (List.getElem?_eq_some_iff.1 hpm).1
        have hAt4 := (hatH.out.move (.of hb4H.out.2.2.1)) m p hpm
        obtain ⟨g', hga, hg'A, hg'l, hc'⟩ := hAt4
        subst hga
        obtain ⟨t', hPt⟩ := hofH.out m p hpm
        obtain ⟨a6, n6, cp6, htv⟩ : ∃ a6 n6 cp6, p.tv = .slice a6 n6 cp6 := by obtain ⟨_, _, _, ⟨a6, cp6, h, _⟩, _⟩ := hPt; exact ⟨a6, _, cp6, h⟩
        obtain ⟨pg, hpg'⟩ : ∃ pg, p.page = pg := ⟨_, rfl⟩
        have hgw : g' < w.heap.size := by
          obtain ⟨g'', e, _, hl, _⟩ := hatH.out m p hpm
          injection e with e; injection e with e; omega
        have y4 : w4.cell? ⟨g', m * 6 + 4, none⟩ = some (.string pg) := by rw [← hpg']; exact hc' 4 _ rfl
        have y5 : w4.cell? ⟨g', m * 6 + 5, none⟩ = some (.slice a6 n6 cp6) := by rw [← htv]; exact hc' 5 _ rfl
        have hI0 : (0 : Int) ≤ (m : Int) := by omega
        have hI1 : (m : Int) < (ps.length : Int) := by omega
        have hng : ¬ g' = pb := by omega
        have hng2 : ¬ pb = g' := by omega
        have hns : ¬ sb = pb := by omega
        have hns2 : ¬ pb = sb := by omega
        have f4 : w4.frozen? ⟨pb, 4, none⟩ = false := free_blk hpb4 4
        have f5 : w4.frozen? ⟨pb, 5, none⟩ = false := free_blk hpb4 5
        obtain ⟨W5, hW5⟩ : ∃ W5, W5 = (w4.setCell ⟨pb, 4, none⟩ (.string pg)).setCell ⟨pb, 5, none⟩ (.slice a6 n6 cp6) := ⟨_, rfl⟩
        have hx5 : W5.heap[pb]? = some (.cells #[.slice (some ⟨b, k, none⟩) qss.length lc, .int .u64 x, .int .u64 y, .int .i64 tl, .string pg, .slice a6 n6 cp6] 101 (0, 0)) := by
          rw [hW5]; exact set_blk (set_blk hpb4 4 _) 5 _
        have hb5 : Below pb w4 W5 := by rw [hW5]; exact ((Below.refl _ _).setCell (p := ⟨pb, 4, none⟩) (Nat.le_refl _) _).setCell (p := ⟨pb, 5, none⟩) (Nat.le_refl _) _
        have hP5 : Hid (Below wr.heap.size wr W5 ∧ PcOf (fun x => sb < x ∧ (Value.slice a' qs.length cp').ownBlock ≠ some x) W5 ⟨b, k, lc, qss, x, y, tl, pg, .slice a6 n6 cp6⟩ t) := hid (by
          have h45 : Below wr.heap.size wr W5 := hb4H.out.1.trans (hb5.mono (by omega))
          have h15 := hb4H.out.2.1.trans (hb5.mono (by omega))
          have h05 := hb4H.out.2.2.1.trans (hb5.mono (by omega))
          obtain ⟨o1, o2, o3, ⟨a7, cp7, o4, o5⟩, o6⟩ := hPt
          rw [hpss] at o1
          have hsame := own_same hownbH.out o1
          rw [htv] at o4
          injection o4 with o7 o8 o9
          subst o7 o8 o9
          refine ⟨h45, hownbH.out, htlH.out.symm, ?_, ⟨a6, cp6, ?_, ?_⟩, hlinK.out, Nat.lt_of_lt_of_le hb1 h15.size, hrsH.out.below h15 hb1, hql⟩
          · show pg = _
            rw [← hpg', o3, blkHt_same hsame]
          · rw [hsame]
          · rw [hsame]
            have := o5.move (A' := fun x => sb < x ∧ x < w.heap.size) (w' := w) ⟨Nat.le_refl _, fun x hx hl => ⟨⟨hx, hl⟩, rfl⟩⟩
            exact (this.move (A' := fun x => sb < x ∧ (Value.slice a' qs.length cp').ownBlock ≠ some x) (w' := w) ⟨Nat.le_refl _, fun x hx hl => ⟨hknd.out x (.inr trivial) ⟨hx.1, .inr (by omega)⟩, rfl⟩⟩).move (.of h05))
        have q0' : W5.cell? ⟨pb, 0, none⟩ = some (.slice (some ⟨b, k, none⟩) qss.length lc) := cell_blk hx5 0 _ rfl
        have q1' : W5.cell? ⟨pb, 1, none⟩ = some (.int .u64 x) := cell_blk hx5 1 _ rfl
        have q2' : W5.cell? ⟨pb, 2, none⟩ = some (.int .u64 y) := cell_blk hx5 2 _ rfl
        have q3' : W5.cell? ⟨pb, 3, none⟩ = some (.int .i64 tl) := cell_blk hx5 3 _ rfl
        have q4' : W5.cell? ⟨pb, 4, none⟩ = some (.string pg) := cell_blk hx5 4 _ rfl
        have q5' : W5.cell? ⟨pb, 5, none⟩ = some (.slice a6 n6 cp6) := cell_blk hx5 5 _ rfl
        have hz5 : w1.heap.size ≤ W5.heap.size := by have := hP5.out.1.size; omega
        have hW5H := hid hW5
        clear hx5 hb5 hW5 hc' hPt htv hpg' hpm hpss hpb4 h4 hA4
        go_upto_region 9 with fail
        go_region_held3 (fun w' => w'.cell? ⟨sb, 1, none⟩ = some (.slice (some ⟨g', 0, none⟩) ps.length cp) ∧ w'.cell? ⟨g', m * 6 + 4, none⟩ = some (.string pg) ∧ w'.cell? ⟨g', m * 6 + 5, none⟩ = some (.slice a6 n6 cp6))
          ((refine ⟨?_, ?_, ?_⟩ <;> (first | with_reducible assumption | go_keep)))
          (fail)
        rw [← hW5H.out]
        go_wp2_with (at_builtin; refine wpList_append_lies _ (by rfl) _ _ 92 (by rfl) w1.heap.size 101 i0 (.agg #[.slice none 0 0, .int .u64 0, .int .u64 0, .int .i64 0, .string ⟨#[]⟩, .slice none 0 0]) 6 88 Tryz.underlying92 hi hz0 hz1 hz2 (by rfl) (by omega) (.slice a' qs.length cp') qs.length (pcCells qs) (by rfl) (hApp.out _ _ hP5.out.1) ⟨W5.heap.size, 0, none⟩ 1 1 [.slice (some ⟨b, k, none⟩) qss.length lc, .int .u64 x, .int .u64 y, .int .i64 tl, .string pg, .slice a6 n6 cp6] (by rfl) (by rfl) (hnew.out _ _ _) (hone.out _ _ _ _) (by omega) (by unfold maxLen; omega) (by omega) (by simp; omega) (W5.heap.size + 1) (by simp) ?_)
        intro g3 cap3 w6 hown3 hgrow3 hat3 hltg3
        have hst := hid (set_step (.inr rfl) hownH.out hbelH.out hallH.out hP5.out.1 htq.out hP5.out.2 hown3 hgrow3 hat3)
        rw [hj1.out] at hst
        clear hown3 hgrow3 hat3 hltg3 hP5
        go_wp2_with fail
        go_roundw
        case rel => exact ⟨j + 1, m + 1, qs.length + 1, some ⟨g3, 0, none⟩, cap3, by omega, by omega, by go_num, rfl, by go_num, by rw [hj1.out]; exact hst⟩
        case measure => simp [intOf]; omega
    · have hje : j = ts.length := by omega
      subst hje
      have hF := hid (hfin.out w1 wr hb1H.out a' n' cp' hrel'.out)
      obtain ⟨qs, hn, hqj, hown, hbel, hall⟩ := hrel'.out
      have hbw := hb1H.out.trans (hbel.mono hw1)
      have hx := (hbw.block sb hsb).trans hshH.out
      have f0 : wr.frozen? ⟨sb, 0, none⟩ = false := free_blk hx 0
      have f1 : wr.frozen? ⟨sb, 1, none⟩ = false := free_blk hx 1
      have c0 : wr.cell? ⟨sb, 0, none⟩ = some (.string t0) := cell_blk hx 0 _ rfl
      have c1 : wr.cell? ⟨sb, 1, none⟩ = some (.slice a ps.length cp) := cell_blk hx 1 _ rfl
      clear hrel' hown hbel hall hbw hx hn hqj
      go_wp2
      go_end0
      exact ⟨rfl, hF.out.1, hF.out.2⟩
end Go.Proofs.YtlojgpkajkedeaaGreatDoor
/- A sheet tells its text, its page, its titles. -/
namespace Go.Proofs.YtlojgpkajkedeaaGreatDoor
open Go.RowKit

set_option maxHeartbeats 1000000 in
theorem stext_any (sb : Nat) (s : ByteArray) (w : World) (h : SheetIn sb w s) :
    Calls Tryz.prog 41 #[.pointer (some ⟨sb, 0, none⟩)] w fun e w' => e = .returned (.string s) ∧ w' = w := by
  obtain ⟨_, a, cp, ps, h1, _⟩ := h
  have c0 : w.cell? ⟨sb, 0, none⟩ = some (.string s) := cell_blk h1 0 _ rfl
  clear h1
  go_enter Tryz.func41, Tryz.ntmps41
  go_wp2
  go_ret
  exact ⟨rfl, rfl⟩

theorem pageOf_blks (s : ByteArray) : pageOf s.data.toList = blksHt contH false (blksOf s) := by
  unfold pageOf blksOf; rw [S.length_data]
theorem titlesOf_blks (s : ByteArray) : titlesOf s.data.toList = titL 0 (blksOf s) := by
  unfold titlesOf blksOf; rw [S.length_data]
theorem blks_well (s : ByteArray) (hs : s.size ≤ 1500) : fitL (blksOf s) ∧ pgL (blksOf s) ≤ 1300000 ∧ lnL (blksOf s) := by
  have hlt := S.lines_tt s.data.toList
  rw [S.length_data] at hlt
  have h1 := readRow_well (s.size + 1) (S.lines s.data.toList) (by omega)
  have h2 := readRow_ln (s.size + 1) (S.lines s.data.toList) (by omega)
  refine ⟨h1.1, ?_, h2⟩
  have := h1.2.1
  unfold blksOf
  omega

set_option maxRecDepth 100000 in
set_option maxHeartbeats 4000000 in
theorem spage_any (sb : Nat) (s : ByteArray) (w : World) (h : SheetIn sb w s) :
    Calls Tryz.prog 42 #[.pointer (some ⟨sb, 0, none⟩)] w fun e w' => e = .returned (.string (S.B (pageOf s.data.toList))) ∧ Below w.heap.size w w' := by
  have hsb := h.lt
  obtain ⟨hs, a, cp, ps, h1, hlen, hat, hof⟩ := h
  obtain ⟨hfit, hpg, _⟩ := blks_well s hs
  have hbl := blks_len s hs
  rw [pageOf_blks]
  obtain ⟨ts, hts⟩ : ∃ ts, blksOf s = ts := ⟨_, rfl⟩
  rw [hts] at hlen hof hfit hpg hbl ⊢
  clear hts
  have c1 : w.cell? ⟨sb, 1, none⟩ = some (.slice a ps.length cp) := cell_blk h1 1 _ rfl
  have hatH := hid hat
  have hofH := hid hof
  have hfitH := hid hfit
  obtain ⟨WA, hWA⟩ : ∃ WA, WA = w.alloc (.cells #[.pointer none, .slice none 0 0] 104) := ⟨_, rfl⟩
  have hfb := fresh_builder w
  rw [← hWA] at hfb
  have hbA : Below w.heap.size w WA := by rw [hWA]; exact (Below.refl _ _).alloc (Nat.le_refl _) _
  have cA : WA.cell? ⟨sb, 1, none⟩ = some (.slice a ps.length cp) := (hbA.cell (p := ⟨sb, 1, none⟩) hsb).trans c1
  have hst : Hid (Lib.IsBuilderF 104 5 w.heap.size w.heap.size (Lib.byteCells (blksHt contH false (ts.take 0))) WA ∧ Below w.heap.size w WA) := hid ⟨hfb, hbA⟩
  have hWAH := hid hWA
  have hlenH := hid hlen
  clear h1 hat hof hfit hfb hWA hbA c1
  go_enter Tryz.func42, Tryz.ntmps42
  go_upto_region 2 with fail
  rw [← hWAH.out]
  go_wp2
  go_loopw [5, 11] (fun _ i wr => ∃ j : Nat, j ≤ ps.length ∧ i = .int .i64 j ∧ Hid (Lib.IsBuilderF 104 5 w.heap.size w.heap.size (Lib.byteCells (blksHt contH false (ts.take j))) wr ∧ Below w.heap.size w wr)) (fun _ i _ => ps.length - (intOf i).toNat)
  case atStart => exact ⟨0, Nat.zero_le _, rfl, hst⟩
  case round =>
    obtain ⟨j, hj, rfl, hrel'⟩ := hrel
    by_cases hlt : j < ps.length
    · obtain ⟨p, hp⟩ : ∃ p, ps[j]? = some p := ⟨ps[j], List.getElem?_eq_getElem hlt⟩
      obtain ⟨t, ht⟩ : ∃ t, ts[j]? = some t := ⟨ts[j]'(by omega), List.getElem?_eq_getElem (by omega)⟩
      obtain ⟨_, _, hpage, ⟨a6, cp6, htv, _⟩, _⟩ := hofH.out j p t hp ht
      obtain ⟨g, hga, _, hgl, hc⟩ := hatH.out j p hp
      obtain ⟨plb, plo, plc, pss, px, py, pat, ppg, ptv⟩ := p
      simp only [pmCells] at hc htv hpage
      subst htv hpage
      subst hga
      obtain ⟨hb, hbw⟩ := hrel'.out
      have hcr : ∀ i u, ([.slice (some ⟨plb, plo, none⟩) pss.length plc, .int .u64 px, .int .u64 py, .int .i64 pat, .string (S.B (blkHt contH false t)), .slice a6 (titB 0 (t.put 0)).length cp6] : List Value)[i]? = some u → wr.cell? ⟨g, j * 6 + i, none⟩ = some u := fun i u hu => (hbw.cell (p := ⟨g, j * 6 + i, none⟩) hgl).trans (hc i u hu)
      obtain ⟨pg, hpgE⟩ : ∃ pg, S.B (blkHt contH false t) = pg := ⟨_, rfl⟩
      obtain ⟨n6, hn6⟩ : ∃ n6, (titB 0 (t.put 0)).length = n6 := ⟨_, rfl⟩
      rw [hpgE, hn6] at hcr
      have d0 := hcr 0 _ rfl
      have d1 := hcr 1 _ rfl
      have d2 := hcr 2 _ rfl
      have d3 := hcr 3 _ rfl
      have d4 := hcr 4 _ rfl
      have d5 := hcr 5 _ rfl
      rw [Nat.add_zero] at d0
      have hI0 : (0 : Int) ≤ (j : Int) := by omega
      have hI1 : (j : Int) < (ps.length : Int) := by omega
      obtain ⟨X, hX⟩ : ∃ X, X = Obj.cells #[.slice (some ⟨plb, plo, none⟩) pss.length plc, .int .u64 px, .int .u64 py, .int .i64 pat, .string pg, .slice a6 n6 cp6] 101 := ⟨_, rfl⟩
      have hbX : Below wr.heap.size wr (wr.alloc X) := (Below.refl _ _).alloc (Nat.le_refl _) _
      have hle1 := blksHt_le false (ts.take j) (fitL_take ts hfitH.out j)
      have hle2 := pgL_take_le ts j
      have hle3 := blkHt_le false t (fitL_get ts hfitH.out j t ht)
      have hle4 := pgL_get ts j t ht
      have hps : pg.size ≤ 1300000 := by rw [← hpgE, S.size_B]; omega
      have hWS : Hid (Calls Tryz.prog 60 #[.pointer (some ⟨w.heap.size, 0, none⟩), .string pg] (wr.alloc X) fun e w' => e = .returned (.tuple #[.int .i64 pg.size, .nilIface]) ∧ Hid (Lib.IsBuilderF 104 5 w.heap.size w.heap.size (Lib.byteCells (blksHt contH false (ts.take (j + 1)))) w' ∧ Below w.heap.size w w')) := hid (by
        have hz := hbw.size
        refine (shwrite w.heap.size w.heap.size _ pg (wr.alloc X) (builder_below hb hbX) (by omega) (by simp; omega)).mono ?_
        rintro e w' ⟨rfl, g1, g2⟩
        refine ⟨rfl, hid ⟨?_, (hbw.trans (hbX.mono hz)).trans g2⟩⟩
        rw [blksHt_take false ts j t ht]
        rw [← hpgE, S.data_B] at g1
        exact g1)
      have hXH := hid hX
      have x4 : (wr.alloc X).cell? ⟨wr.heap.size, 4, none⟩ = some (.string pg) := by rw [hX]; exact cell_blk (alloc_new _ _) 4 _ rfl
      clear hX hbX hb hbw hcr hc hrel' hpgE hn6 ht hle1 hle3
      go_upto_region 5 with fail
      rw [← hXH.out]
      go_wp2_with fail
      refine hWS.out.mono ?_
      rintro e w2 ⟨rfl, h2⟩
      go_wp2
      go_roundw
      case rel => exact ⟨j + 1, by omega, by go_num, h2⟩
      case measure => simp [intOf]; omega
    · have hje : j = ps.length := by omega
      subst hje
      have hS : Hid (Calls Tryz.prog 61 #[.pointer (some ⟨w.heap.size, 0, none⟩)] wr fun e w' => e = .returned (.string (S.B (blksHt contH false ts))) ∧ Hid (Below w.heap.size w w')) := hid (by
        obtain ⟨hb, hbw⟩ := hrel'.out
        rw [hlenH.out, List.take_length] at hb
        refine (Tryz.stringB w.heap.size w.heap.size _ wr hb hbw.size).mono ?_
        rintro e w' ⟨rfl, _, g2, _⟩
        exact ⟨rfl, hid (hbw.trans g2)⟩)
      clear hrel'
      go_wp2_with fail
      refine hS.out.mono ?_
      rintro e w2 ⟨rfl, h2⟩
      go_wp2
      go_ret
      exact ⟨rfl, h2.out⟩
end Go.Proofs.YtlojgpkajkedeaaGreatDoor
/- A sheet tells its titles. -/
namespace Go.Proofs.YtlojgpkajkedeaaGreatDoor
open Go.RowKit

mutual
theorem titB_bd : ∀ (b : S.Blk) (z : Int), lnB b → ∀ x ∈ titB z b, z ≤ x.line ∧ x.line ≤ z + 300000 * (pgB b : Int)
  | .at_ li k n i t lo kids => by
    intro z h x hx
    simp only [lnB] at h
    have ih := titL_bd kids (z + li) h.2.2
    simp only [titB, List.mem_append] at hx
    simp only [pgB]
    rcases hx with hx | hx
    · split at hx
      · simp at hx; subst hx; dsimp only; omega
      · simp at hx
    · have := ih x hx; omega
theorem titL_bd : ∀ (l : List S.Blk) (z : Int), lnL l → ∀ x ∈ titL z l, z ≤ x.line ∧ x.line ≤ z + 300000 * (pgL l : Int)
  | [] => by intro z _ x hx; simp [titL] at hx
  | b :: r => by
    intro z h x hx
    simp only [lnL] at h
    simp only [titL, List.mem_append] at hx
    simp only [pgL]
    rcases hx with hx | hx
    · have := titB_bd b z h.1 x hx; omega
    · have := titL_bd r z h.2 x hx; omega
end
theorem lnB_line {t : S.Blk} (h : lnB t) : 0 ≤ t.line ∧ t.line ≤ 300000 := by
  cases t; simp only [lnB] at h; exact ⟨h.1, h.2.1⟩

set_option maxRecDepth 100000 in
set_option maxHeartbeats 8000000 in
theorem stitles_any (sb : Nat) (s : ByteArray) (w : World) (h : SheetIn sb w s) :
    Calls Tryz.prog 40 #[.pointer (some ⟨sb, 0, none⟩)] w fun e w' => ∃ a cp, e = .returned (.slice a (titlesOf s.data.toList).length cp) ∧ OwnsT w.heap.size a cp (titlesOf s.data.toList) w' ∧ Below w.heap.size w w' := by
  obtain ⟨i0, hi, hi0, hi1, hi2⟩ := info_parts Tryz.infoTitle
  have hsb := h.lt
  obtain ⟨hs, a, cp, ps, h1, hlen, hat, hof⟩ := h
  obtain ⟨hfit, hpg, hln⟩ := blks_well s hs
  have hbl := blks_len s hs
  rw [titlesOf_blks]
  obtain ⟨ts, hts⟩ : ∃ ts, blksOf s = ts := ⟨_, rfl⟩
  rw [hts] at hlen hof hfit hpg hbl hln ⊢
  clear hts
  have hcnt := titL_cnt ts 0
  have c1 : w.cell? ⟨sb, 1, none⟩ = some (.slice a ps.length cp) := cell_blk h1 1 _ rfl
  have hatH := hid hat
  have hofH := hid hof
  have hlnH := hid hln
  have hlenH := hid hlen
  clear h1 hat hof hfit hln
  go_enter Tryz.func40, Tryz.ntmps40
  go_wp2
  go_loopw [3, 5, 7, 13] (fun vl _ _ i wr => ∃ (j n' : Nat) (a' : Option Addr) (cp' : Nat), j ≤ ps.length ∧ i = .int .i64 j ∧ vl = .slice a' n' cp' ∧ Hid (n' = (titL 0 (ts.take j)).length ∧ OwnsT w.heap.size a' cp' (titL 0 (ts.take j)) wr ∧ Below w.heap.size w wr)) (fun _ _ _ i _ => ps.length - (intOf i).toNat)
  case atStart => exact ⟨0, 0, none, 0, Nat.zero_le _, rfl, rfl, hid ⟨by simp [titL], by rw [show titL 0 (ts.take 0) = [] by simp [titL]]; exact World.ownsRow_nil _ _ _ _, Below.refl _ _⟩⟩
  case round =>
    obtain ⟨j, n', a', cp', hj, rfl, rfl, hrel'⟩ := hrel
    obtain ⟨wo, hwo⟩ : ∃ wo, wo = wr := ⟨_, rfl⟩
    subst hwo
    by_cases hlt : j < ps.length
    · obtain ⟨p, hp⟩ : ∃ p, ps[j]? = some p := ⟨ps[j], List.getElem?_eq_getElem hlt⟩
      obtain ⟨t, ht⟩ : ∃ t, ts[j]? = some t := ⟨ts[j]'(by omega), List.getElem?_eq_getElem (by omega)⟩
      obtain ⟨_, hline, _, ⟨a6, cp6, htv, htr⟩, _⟩ := hofH.out j p t hp ht
      obtain ⟨g, hga, _, hgl, hc⟩ := hatH.out j p hp
      obtain ⟨plb, plo, plc, pss, px, py, pat, ppg, ptv⟩ := p
      simp only [pmCells] at hc htv hline
      subst htv hline
      subst hga
      obtain ⟨hn', hown, hbw⟩ := hrel'.out
      have hlnt := lnL_get ts hlnH.out j t ht
      have hll := lnB_line hlnt
      have hbd := titB_bd (t.put 0) 0 (lnB_put 0 t (by omega) (by omega) (lnB_kids hlnt))
      rw [pgB_put] at hbd
      have hpgt := pgL_get ts j t ht
      have hsn : titL 0 (ts.take (j + 1)) = titL 0 (ts.take j) ++ (titB 0 (t.put 0)).map (Tl.shift t.line) := by rw [titL_take 0 ts j t ht, titB_put]
      have htot : 120 * (titL 0 (ts.take (j + 1))).length ≤ 1300000 := by
        have h1 := titL_cnt (ts.take (j + 1)) 0
        have h2 := pgL_take_le ts (j + 1)
        omega
      obtain ⟨T, hT⟩ : ∃ T, titB 0 (t.put 0) = T := ⟨_, rfl⟩
      obtain ⟨L, hL⟩ : ∃ L, titL 0 (ts.take j) = L := ⟨_, rfl⟩
      obtain ⟨tl, htl⟩ : ∃ tl, t.line = tl := ⟨_, rfl⟩
      rw [hT] at hbd hsn htr hc
      rw [hL] at hsn hn' hown
      rw [htl] at hsn hc hll
      rw [hsn, List.length_append, List.length_map] at htot
      subst hn'
      have hcr : ∀ i u, ([.slice (some ⟨plb, plo, none⟩) pss.length plc, .int .u64 px, .int .u64 py, .int .i64 tl, .string ppg, .slice a6 T.length cp6] : List Value)[i]? = some u → wo.cell? ⟨g, j * 6 + i, none⟩ = some u := fun i u hu => (hbw.cell (p := ⟨g, j * 6 + i, none⟩) hgl).trans (hc i u hu)
      have d0 := hcr 0 _ rfl
      have d1 := hcr 1 _ rfl
      have d2 := hcr 2 _ rfl
      have d3 := hcr 3 _ rfl
      have d4 := hcr 4 _ rfl
      have d5 := hcr 5 _ rfl
      rw [Nat.add_zero] at d0
      have hI0 : (0 : Int) ≤ (j : Int) := by omega
      have hI1 : (j : Int) < (ps.length : Int) := by omega
      obtain ⟨X, hX⟩ : ∃ X, X = Obj.cells #[.slice (some ⟨plb, plo, none⟩) pss.length plc, .int .u64 px, .int .u64 py, .int .i64 tl, .string ppg, .slice a6 T.length cp6] 101 := ⟨_, rfl⟩
      have hbX : Below wo.heap.size wo (wo.alloc X) := (Below.refl _ _).alloc (Nat.le_refl _) _
      have hxX : (wo.alloc X).heap[wo.heap.size]? = some (.cells #[.slice (some ⟨plb, plo, none⟩) pss.length plc, .int .u64 px, .int .u64 py, .int .i64 tl, .string ppg, .slice a6 T.length cp6] 101 (0, 0)) := by rw [hX]; exact alloc_new _ _
      have x5 : (wo.alloc X).cell? ⟨wo.heap.size, 5, none⟩ = some (.slice a6 T.length cp6) := cell_blk hxX 5 _ rfl
      have hwz : w.heap.size ≤ wo.heap.size := hbw.size
      have hst : Hid (L.length = (L ++ (T.take 0).map (Tl.shift tl)).length ∧ OwnsT w.heap.size a' cp' (L ++ (T.take 0).map (Tl.shift tl)) (wo.alloc X) ∧ Below w.heap.size w (wo.alloc X) ∧ (Value.slice a' L.length cp').ownBlock ≠ some wo.heap.size ∧ (wo.alloc X).heap[wo.heap.size]? = some (.cells #[.slice (some ⟨plb, plo, none⟩) pss.length plc, .int .u64 px, .int .u64 py, .int .i64 tl, .string ppg, .slice a6 T.length cp6] 101 (0, 0))) := hid ⟨by simp, by simpa using hown.alloc X, hbw.trans (hbX.mono hwz), fun e => by have := hown.lt _ e; omega, hxX⟩
      have hXH := hid hX
      have hsnH := hid hsn
      have hbdH := hid hbd
      have htrH := hid htr
      have hhead : Hid (L.length + T.length ≤ 20000) := hid (by omega)
      clear hX hbX hown hbw hcr hc hrel' ht hT hL htl hsn hbd htr hxX htot hlnt
      go_upto_region 5 with fail
      rw [← hXH.out]
      go_wp2
      go_loopw [3, 7, 20] (fun vl _ i2 w2 => ∃ (i n' : Nat) (a2 : Option Addr) (cp2 : Nat), i ≤ T.length ∧ i2 = .int .i64 i ∧ vl = .slice a2 n' cp2 ∧ Hid (n' = (L ++ (T.take i).map (Tl.shift tl)).length ∧ OwnsT w.heap.size a2 cp2 (L ++ (T.take i).map (Tl.shift tl)) w2 ∧ Below w.heap.size w w2 ∧ (Value.slice a2 n' cp2).ownBlock ≠ some wo.heap.size ∧ w2.heap[wo.heap.size]? = some (.cells #[.slice (some ⟨plb, plo, none⟩) pss.length plc, .int .u64 px, .int .u64 py, .int .i64 tl, .string ppg, .slice a6 T.length cp6] 101 (0, 0)))) (fun _ _ i2 _ => T.length - (intOf i2).toNat)
      case atStart => exact ⟨0, L.length, a', cp', Nat.zero_le _, rfl, rfl, hst⟩
      case round =>
        obtain ⟨i, n', a2, cp2, hiT, rfl, rfl, hrel2⟩ := hrel
        by_cases hlt2 : i < T.length
        · obtain ⟨hn2, hown2, hbw2, hne2, hx2⟩ := hrel2.out
          obtain ⟨x, hx⟩ : ∃ x, T[i]? = some x := ⟨T[i], List.getElem?_eq_getElem hlt2⟩
          obtain ⟨g6, hg6, _, hgl6, hc6⟩ := htrH.out i x hx
          subst hg6
          have hxb := hbdH.out x (List.mem_of_getElem? hx)
          have hsn2 : L ++ (T.take (i + 1)).map (Tl.shift tl) = (L ++ (T.take i).map (Tl.shift tl)) ++ [Tl.shift tl x] := by rw [List.take_add_one, hx]; simp
          have hLl : (L ++ (T.take i).map (Tl.shift tl)).length + 1 ≤ 1000000 := by
            have := hhead.out
            rw [List.length_append, List.length_map, List.length_take]; omega
          obtain ⟨Li, hLi⟩ : ∃ Li, L ++ (T.take i).map (Tl.shift tl) = Li := ⟨_, rfl⟩
          rw [hLi] at hn2 hown2 hsn2 hLl
          subst hn2
          obtain ⟨lv, lt, ll⟩ := x
          simp only [three] at hc6
          simp only at hxb
          have hcr6 : ∀ j u, ([.int .i64 lv, .string (S.B lt), .int .i64 ll] : List Value)[j]? = some u → wr.cell? ⟨g6, i * 3 + j, none⟩ = some u := fun j u hu => (hbw2.cell (p := ⟨g6, i * 3 + j, none⟩) hgl6).trans (hc6 j u hu)
          have e0 := hcr6 0 _ rfl
          have e1 := hcr6 1 _ rfl
          have e2 := hcr6 2 _ rfl
          rw [Nat.add_zero] at e0
          have q3 : wr.cell? ⟨wo.heap.size, 3, none⟩ = some (.int .i64 tl) := cell_blk hx2 3 _ rfl
          have hpl2 : wo.heap.size < wr.heap.size := (Array.getElem?_eq_some_iff.1 hx2).1
          have hwrap : IntKind.i64.wrap (ll + tl) = ll + tl := by rw [IntKind.wrap_i64]; omega
          have hTb : T.length ≤ 20000 := by have := hhead.out; omega
          have hJ0 : (0 : Int) ≤ (i : Int) := by omega
          have hJ1 : (i : Int) < (T.length : Int) := by omega
          have hown2H := hid hown2
          have hbw2H := hid hbw2
          have hne2H := hid hne2
          have hx2H := hid hx2
          have hsn2H := hid hsn2
          obtain ⟨W3, hW3⟩ : ∃ W3, W3 = wr.alloc (.cells #[.int .i64 lv, .string (S.B lt), .int .i64 (ll + tl)] 71) := ⟨_, rfl⟩
          have hb3 : Below wr.heap.size wr W3 := by rw [hW3]; exact (Below.refl _ _).alloc (Nat.le_refl _) _
          have hx3 : W3.heap[wr.heap.size]? = some (.cells #[.int .i64 lv, .string (S.B lt), .int .i64 (ll + tl)] 71 (0, 0)) := by rw [hW3]; exact alloc_new _ _
          have hz3 : wr.heap.size < W3.heap.size := by rw [hW3]; simp
          have r0 : W3.cell? ⟨wr.heap.size, 0, none⟩ = some (.int .i64 lv) := cell_blk hx3 0 _ rfl
          have r1 : W3.cell? ⟨wr.heap.size, 1, none⟩ = some (.string (S.B lt)) := cell_blk hx3 1 _ rfl
          have r2 : W3.cell? ⟨wr.heap.size, 2, none⟩ = some (.int .i64 (ll + tl)) := cell_blk hx3 2 _ rfl
          have hwz2 : w.heap.size ≤ wr.heap.size := hbw2.size
          have hwz3 : w.heap.size ≤ W3.heap.size := by omega
          have hownW : Hid (∀ ob, (W3.alloc ob).ownsRow w.heap.size 71 3 (.slice a2 Li.length cp2) Li.length (tlCells Li)) := hid (fun ob => (hown2.below hb3).alloc ob)
          have hnew : Hid (∀ j u, ([.int .i64 lv, .string (S.B lt), .int .i64 (ll + tl)] : List Value)[j]? = some u → (W3.alloc (.cells #[.int .i64 lv, .string (S.B lt), .int .i64 (ll + tl)] 71)).cell? ((⟨W3.heap.size, 0, none⟩ : Addr).add j) = some u) := hid (fun j u hj => World.news_of_block (alloc_new _ _) j u (by exact hj))
          have hone : Hid (∀ u ∈ ([.int .i64 lv, .string (S.B lt), .int .i64 (ll + tl)] : List Value), u.oneCell' = true) := hid (by
            intro u hu; simp at hu; rcases hu with rfl | rfl | rfl <;> rfl)
          have hnext : Hid (∀ ob w6 g3 cap3, (W3.alloc ob).grownBy w6 (Value.slice a2 Li.length cp2).ownBlock → w6.ownsRow w.heap.size 71 3 (.slice (some ⟨g3, 0, none⟩) (Li.length + 1) cap3) (Li.length + 1) (tlCells Li ++ [.int .i64 lv, .string (S.B lt), .int .i64 (ll + tl)]) → ((Value.slice a2 Li.length cp2).ownBlock = some g3 ∨ g3 = W3.heap.size + 1) →
              (Li.length + 1 = (L ++ (T.take (i + 1)).map (Tl.shift tl)).length ∧ OwnsT w.heap.size (some ⟨g3, 0, none⟩) cap3 (L ++ (T.take (i + 1)).map (Tl.shift tl)) w6 ∧ Below w.heap.size w w6 ∧ (Value.slice (some ⟨g3, 0, none⟩) (Li.length + 1) cap3).ownBlock ≠ some wo.heap.size ∧ w6.heap[wo.heap.size]? = some (.cells #[.slice (some ⟨plb, plo, none⟩) pss.length plc, .int .u64 px, .int .u64 py, .int .i64 tl, .string ppg, .slice (some ⟨g6, 0, none⟩) T.length cp6] 101 (0, 0)))) := hid (fun ob w6 g3 cap3 h1 h2 h3 => by
            have hsa : (W3.alloc ob).heap.size = W3.heap.size + 1 := by simp
            refine ⟨by rw [hsn2]; simp, ?_, ?_, ?_, ?_⟩
            · unfold OwnsT
              rw [hsn2, tlCells_snoc, List.length_append]
              exact h2
            · exact Below.grown ((hbw2.trans (hb3.mono hwz2)).alloc hwz3 ob) h1 (by omega) (fun k hk => (hown2.lt k hk).1)
            · intro e
              have e2 : g3 = wo.heap.size := by simpa [Value.ownBlock] using e
              rcases h3 with h | h
              · exact hne2 (by rw [h, e2])
              · omega
            · exact (h1.block _ (by omega) (fun e => hne2 e.symm)).trans ((Below.heap_alloc _ _ _ (by omega)).trans ((hb3.block _ hpl2).trans hx2)))
          have hW3H := hid hW3
          have hlt2H : Hid (i < T.length) := hid hlt2
          clear hown2 hbw2 hne2 hx2 hsn2 hrel2 hc6 hcr6 hLi hx hxb hW3 hb3 hx3 hown2H hbw2H hne2H hx2H hsn2H
          go_upto_region 9 with fail
          rw [← hW3H.out]
          go_wp2_with (at_builtin; refine wpList_append_lies _ (by rfl) _ _ 65 (by rfl) w.heap.size 71 i0 (.agg #[.int .i64 0, .string ⟨#[]⟩, .int .i64 0]) 3 32 Tryz.underlying65 hi hi0 hi1 hi2 (by rfl) (by omega) (.slice a2 Li.length cp2) Li.length (tlCells Li) (by rfl) (hownW.out _) ⟨W3.heap.size, 0, none⟩ 1 1 [.int .i64 lv, .string (S.B lt), .int .i64 (ll + tl)] (by rfl) (by rfl) hnew.out hone.out (by omega) (by unfold maxLen; omega) (by omega) (by simp; omega) (W3.heap.size + 1) (by simp) ?_)
          intro g3 cap3 w6 hown3 hgrow3 hat3 hltg3
          have hN := hid (hnext.out _ w6 g3 cap3 hgrow3 hown3 hat3)
          clear hown3 hgrow3 hat3 hltg3 hnext hnew hone hownW r0 r1 r2 e0 e1 e2 q3
          go_wp2_with fail
          go_roundw
          case rel => exact ⟨i + 1, Li.length + 1, some ⟨g3, 0, none⟩, cap3, by have := hlt2H.out; omega, by go_num, rfl, hN⟩
          case measure => have := hlt2H.out; simp [intOf]; omega
        · have hie : i = T.length := by omega
          subst hie
          have hRR : Hid (n' = (titL 0 (ts.take (j + 1))).length ∧ OwnsT w.heap.size a2 cp2 (titL 0 (ts.take (j + 1))) wr ∧ Below w.heap.size w wr) := hid (by
            obtain ⟨h1, h2, h3, _⟩ := hrel2.out
            rw [List.take_length] at h1 h2
            rw [hsnH.out]
            exact ⟨h1, h2, h3⟩)
          clear hrel2
          go_wp2_with fail
          go_roundw
          case rel => exact ⟨j + 1, n', a2, cp2, by omega, by go_num, rfl, hRR⟩
          case measure => simp [intOf]; omega
    · have hje : j = ps.length := by omega
      subst hje
      have hF : Hid (n' = (titL 0 ts).length ∧ OwnsT w.heap.size a' cp' (titL 0 ts) wo ∧ Below w.heap.size w wo) := hid (by
        obtain ⟨h1, h2, h3⟩ := hrel'.out
        rw [hlenH.out, List.take_length] at h1 h2
        exact ⟨h1, h2, h3⟩)
      clear hrel'
      go_wp2
      go_ret
      exact ⟨a', cp', by rw [hF.out.1]; rfl, hF.out.2.1, hF.out.2.2⟩
end Go.Proofs.YtlojgpkajkedeaaGreatDoor
/- A sheet is made; it is edited. -/
namespace Go.Proofs.YtlojgpkajkedeaaGreatDoor
open Go.RowKit

set_option maxHeartbeats 1000000 in
theorem newSheet_long (s : ByteArray) (w : World) (hs : 1500 < s.size) :
    Calls Tryz.prog 38 #[.string s] w fun e w' => e = .returned (.tuple #[.pointer none, .int .i64 1]) ∧ w' = w := by
  have hs2 : (1500 : Int) < (s.size : Int) := by omega
  go_enter Tryz.func38, Tryz.ntmps38
  go_wp2
  go_ret2
  exact ⟨rfl, rfl⟩

set_option maxRecDepth 100000 in
set_option maxHeartbeats 4000000 in
theorem newSheet_any (s : ByteArray) (w : World) (hs : s.size ≤ 1500) (henv : EnvP w.heap.size w) :
    Calls Tryz.prog 38 #[.string s] w fun e w' => e = .returned (.tuple #[.pointer (some ⟨w.heap.size, 0, none⟩), .int .i64 0]) ∧ Below w.heap.size w w' ∧ SheetIn w.heap.size w' s := by
  have hs2 : ¬ (1500 : Int) < (s.size : Int) := by omega
  obtain ⟨W1, hW1⟩ : ∃ W1, W1 = w.alloc (.cells #[.string ⟨#[]⟩, .slice none 0 0] 94) := ⟨_, rfl⟩
  have hb1 : Below w.heap.size w W1 := by rw [hW1]; exact (Below.refl _ _).alloc (Nat.le_refl _) _
  have hx1 : W1.heap[w.heap.size]? = some (.cells #[.string ⟨#[]⟩, .slice none 0 0] 94 (0, 0)) := by rw [hW1]; exact alloc_new _ _
  have hl1 : w.heap.size < W1.heap.size := by rw [hW1]; simp
  have hC := hid (clone_any s W1 (by omega))
  have hS : Hid (∀ w2, Below W1.heap.size W1 w2 → Calls Tryz.prog 58 #[.pointer (some ⟨w.heap.size, 0, none⟩), .string s] w2 fun e w' => e = .returned (.tuple #[]) ∧ Hid (Below w.heap.size w w' ∧ SheetIn w.heap.size w' s)) := hid (fun w2 h2 => by
    have hbw := hb1.trans (h2.mono (by omega))
    refine (setText_any w.heap.size ⟨#[]⟩ s none 0 [] w2 hs ((h2.block _ hl1).trans hx1) (by simp) (fun i p hp => by simp at hp) (fun i p hp => by simp at hp) (henv.below hbw)).mono ?_
    rintro e w' ⟨rfl, g1, g2⟩
    exact ⟨rfl, hid ⟨hbw.trans g1, g2⟩⟩)
  have hW1H := hid hW1
  clear hW1 hb1 hx1 henv
  go_enter Tryz.func38, Tryz.ntmps38
  go_wp2_with fail
  rw [← hW1H.out]
  refine hC.out.mono ?_
  rintro e w2 ⟨rfl, h2⟩
  have hSS := hid (hS.out w2 h2)
  clear h2
  go_wp2_with fail
  refine hSS.out.mono ?_
  rintro e w3 ⟨rfl, h3⟩
  go_wp2
  go_ret2
  exact ⟨rfl, h3.out.1, h3.out.2⟩

set_option maxHeartbeats 2000000 in
theorem edit_behind (sb : Nat) (s : ByteArray) (w : World) (h : SheetIn sb w s) :
    Calls Tryz.prog 43 #[.pointer (some ⟨sb, 0, none⟩), .int .i64 ((s.size : Int) + 1), .int .i64 0, .string ⟨#[]⟩] w fun e w' => e = .returned (.int .i64 2) ∧ w' = w := by
  obtain ⟨hs, a, cp, ps, h1, _⟩ := h
  have c0 : w.cell? ⟨sb, 0, none⟩ = some (.string s) := cell_blk h1 0 _ rfl
  have hI0 : ¬ (s.size : Int) + 1 < 0 := by omega
  have hwr : IntKind.i64.wrap ((s.size : Int) - ((s.size : Int) + 1)) = -1 := by rw [IntKind.wrap_i64]; omega
  clear h1
  go_enter Tryz.func43, Tryz.ntmps43
  go_wp2
  go_ret
  exact ⟨rfl, rfl⟩
set_option maxHeartbeats 2000000 in
theorem edit_more (sb : Nat) (s : ByteArray) (w : World) (h : SheetIn sb w s) :
    Calls Tryz.prog 43 #[.pointer (some ⟨sb, 0, none⟩), .int .i64 0, .int .i64 ((s.size : Int) + 1), .string ⟨#[]⟩] w fun e w' => e = .returned (.int .i64 2) ∧ w' = w := by
  obtain ⟨hs, a, cp, ps, h1, _⟩ := h
  have c0 : w.cell? ⟨sb, 0, none⟩ = some (.string s) := cell_blk h1 0 _ rfl
  have hI0 : ¬ (s.size : Int) + 1 < 0 := by omega
  have hwr : IntKind.i64.wrap ((s.size : Int) - 0) = (s.size : Int) := by rw [IntKind.wrap_i64]; omega
  have hI1 : (s.size : Int) < (s.size : Int) + 1 := by omega
  clear h1
  go_enter Tryz.func43, Tryz.ntmps43
  go_wp2
  go_ret
  exact ⟨rfl, rfl⟩
set_option maxHeartbeats 2000000 in
theorem edit_ahead (sb : Nat) (w : World) :
    Calls Tryz.prog 43 #[.pointer (some ⟨sb, 0, none⟩), .int .i64 (-1), .int .i64 0, .string ⟨#[]⟩] w fun e w' => e = .returned (.int .i64 2) ∧ w' = w := by
  go_enter Tryz.func43, Tryz.ntmps43
  go_wp2
  go_ret
  exact ⟨rfl, rfl⟩
set_option maxHeartbeats 2000000 in
theorem edit_long (sb : Nat) (s x : ByteArray) (p r : Nat) (w : World) (h : SheetIn sb w s) (hpr : p + r ≤ s.size) (hl : 1500 < s.size - r + x.size) :
    Calls Tryz.prog 43 #[.pointer (some ⟨sb, 0, none⟩), .int .i64 (p : Int), .int .i64 (r : Int), .string x] w fun e w' => e = .returned (.int .i64 1) ∧ w' = w := by
  obtain ⟨hs, a, cp, ps, h1, _⟩ := h
  have c0 : w.cell? ⟨sb, 0, none⟩ = some (.string s) := cell_blk h1 0 _ rfl
  have hI0 : ¬ (p : Int) < 0 := by omega
  have hI1 : ¬ (r : Int) < 0 := by omega
  have hwr : IntKind.i64.wrap ((s.size : Int) - (p : Int)) = (s.size : Int) - (p : Int) := by rw [IntKind.wrap_i64]; omega
  have hI2 : ¬ (s.size : Int) - (p : Int) < (r : Int) := by omega
  have hwr2 : IntKind.i64.wrap ((s.size : Int) - (r : Int)) = (s.size : Int) - (r : Int) := by rw [IntKind.wrap_i64]; omega
  have hwr3 : IntKind.i64.wrap (1500 - ((s.size : Int) - (r : Int))) = 1500 - ((s.size : Int) - (r : Int)) := by rw [IntKind.wrap_i64]; omega
  have hI3 : 1500 - ((s.size : Int) - (r : Int)) < (x.size : Int) := by omega
  clear h1
  go_enter Tryz.func43, Tryz.ntmps43
  go_wp2
  go_ret
  exact ⟨rfl, rfl⟩

/-- A text, edited. -/
def edited (s x : ByteArray) (p r : Nat) : ByteArray := s.extract 0 p ++ x ++ s.extract (p + r) s.size
theorem edited_size (s x : ByteArray) (p r : Nat) (h : p + r ≤ s.size) : (edited s x p r).size = s.size - r + x.size := by
  unfold edited; simp only [ByteArray.size_append, ByteArray.size_extract]; omega

set_option maxRecDepth 100000 in
set_option maxHeartbeats 4000000 in
theorem edit_any (sb : Nat) (s x : ByteArray) (p r : Nat) (w : World) (h : SheetIn sb w s) (hpr : p + r ≤ s.size) (hl : s.size - r + x.size ≤ 1500) (henv : EnvP sb w) :
    Calls Tryz.prog 43 #[.pointer (some ⟨sb, 0, none⟩), .int .i64 (p : Int), .int .i64 (r : Int), .string x] w fun e w' => e = .returned (.int .i64 0) ∧ Below sb w w' ∧ SheetIn sb w' (edited s x p r) := by
  have hsb := h.lt
  have hH := hid h
  obtain ⟨hs, a, cp, ps, h1, hlen, hat, hof⟩ := h
  have hbl := blks_len s hs
  have hoe : ∀ (i : Nat) (q : Pm), ps[i]? = some q → ∃ t, PcOf (fun x => sb < x) w q t := fun i q hq => by
    have hil : i < (blksOf s).length := by rw [← hlen]; exact (List.getElem?_eq_some_iff.1 hq).1
    exact ⟨_, hof i q _ hq (List.getElem?_eq_getElem hil)⟩
  have hes := edited_size s x p r hpr
  have c0 : w.cell? ⟨sb, 0, none⟩ = some (.string s) := cell_blk h1 0 _ rfl
  have hI0 : ¬ (p : Int) < 0 := by omega
  have hI1 : ¬ (r : Int) < 0 := by omega
  have hwr : IntKind.i64.wrap ((s.size : Int) - (p : Int)) = (s.size : Int) - (p : Int) := by rw [IntKind.wrap_i64]; omega
  have hI2 : ¬ (s.size : Int) - (p : Int) < (r : Int) := by omega
  have hwr2 : IntKind.i64.wrap ((s.size : Int) - (r : Int)) = (s.size : Int) - (r : Int) := by rw [IntKind.wrap_i64]; omega
  have hwr3 : IntKind.i64.wrap (1500 - ((s.size : Int) - (r : Int))) = 1500 - ((s.size : Int) - (r : Int)) := by rw [IntKind.wrap_i64]; omega
  have hI3 : ¬ 1500 - ((s.size : Int) - (r : Int)) < (x.size : Int) := by omega
  have hI4 : (0 : Int) ≤ (p : Int) := by omega
  have hI5 : (p : Int) ≤ (s.size : Int) := by omega
  have hwr4 : IntKind.i64.wrap ((p : Int) + (r : Int)) = (p : Int) + (r : Int) := by rw [IntKind.wrap_i64]; omega
  have hI6 : (0 : Int) ≤ (p : Int) + (r : Int) := by omega
  have hI7 : (p : Int) + (r : Int) ≤ (s.size : Int) := by omega
  have hton : ((p : Int) + (r : Int)).toNat = p + r := by omega
  have hz1 : (s.extract 0 p).size = p := by simp; omega
  have hz2 : (s.extract (p + r) s.size).size = s.size - (p + r) := by simp
  obtain ⟨WA, hWA⟩ : ∃ WA, WA = w.alloc (.cells #[.pointer none, .slice none 0 0] 104) := ⟨_, rfl⟩
  have hfb := fresh_builder w
  rw [← hWA] at hfb
  have hbA : Below w.heap.size w WA := by rw [hWA]; exact (Below.refl _ _).alloc (Nat.le_refl _) _
  have hk0 : Hid (∀ wx, Below w.heap.size w wx → wx.cell? ⟨sb, 0, none⟩ = some (.string s)) := hid (fun wx hx => (hx.cell (p := ⟨sb, 0, none⟩) hsb).trans c0)
  have hW : Hid (∀ (l : List UInt8) (y : ByteArray) (wx : World), l.length + y.size ≤ 1000000 → Lib.IsBuilderF 104 5 w.heap.size w.heap.size (Lib.byteCells l) wx ∧ Below w.heap.size w wx → Calls Tryz.prog 60 #[.pointer (some ⟨w.heap.size, 0, none⟩), .string y] wx fun e w' => e = .returned (.tuple #[.int .i64 y.size, .nilIface]) ∧ w'.cell? ⟨sb, 0, none⟩ = some (.string s) ∧ Hid (Lib.IsBuilderF 104 5 w.heap.size w.heap.size (Lib.byteCells (l ++ y.data.toList)) w' ∧ Below w.heap.size w w')) := hid (fun l y wx hly hx => by
    refine (shwrite w.heap.size w.heap.size l y wx hx.1 (by omega) hx.2.size).mono ?_
    rintro e w' ⟨rfl, g1, g2⟩
    have g3 := hx.2.trans g2
    exact ⟨rfl, hk0.out w' g3, hid ⟨g1, g3⟩⟩)
  have hS : Hid (∀ (l : List UInt8) (wx : World), Lib.IsBuilderF 104 5 w.heap.size w.heap.size (Lib.byteCells l) wx ∧ Below w.heap.size w wx → Calls Tryz.prog 61 #[.pointer (some ⟨w.heap.size, 0, none⟩)] wx fun e w' => e = .returned (.string (S.B l)) ∧ Hid (Below w.heap.size w w')) := hid (fun l wx hx => by
    refine (Tryz.stringB w.heap.size w.heap.size l wx hx.1 hx.2.size).mono ?_
    rintro e w' ⟨rfl, _, g2, _⟩
    exact ⟨rfl, hid (hx.2.trans g2)⟩)
  have hT : Hid (∀ (y : ByteArray) (wx : World), y = edited s x p r → Below w.heap.size w wx → Calls Tryz.prog 58 #[.pointer (some ⟨sb, 0, none⟩), .string y] wx fun e w' => e = .returned (.tuple #[]) ∧ Hid (Below sb w w' ∧ SheetIn sb w' (edited s x p r))) := hid (fun y wx hy hx => by
    subst hy
    refine (setText_any sb s (edited s x p r) a cp ps wx (by rw [hes]; exact hl) ((hx.block sb hsb).trans h1) (by omega) (hat.move (.of hx)) (fun i q hq => by obtain ⟨t, ht⟩ := hoe i q hq; exact ⟨t, ht.move (.of hx)⟩) (henv.below (hx.mono (by omega)))).mono ?_
    rintro e w' ⟨rfl, g1, g2⟩
    exact ⟨rfl, hid ⟨(hx.mono (by omega)).trans g1, g2⟩⟩)
  have hst : Hid (Lib.IsBuilderF 104 5 w.heap.size w.heap.size (Lib.byteCells []) WA ∧ Below w.heap.size w WA) := hid ⟨hfb, hbA⟩
  have cA : WA.cell? ⟨sb, 0, none⟩ = some (.string s) := hk0.out WA hbA
  have hWAH := hid hWA
  have hfin : Hid (S.B ((([] ++ (s.extract 0 p).data.toList) ++ x.data.toList) ++ (s.extract (p + r) s.size).data.toList) = edited s x p r) := hid (by
    unfold edited S.B
    apply ByteArray.ext
    simp [ByteArray.data_append])
  clear h1 hat hof hfb hWA hbA hoe hlen hes hH
  go_enter Tryz.func43, Tryz.ntmps43
  go_upto_region 6 with fail
  rw [← hWAH.out]
  go_wp2_with fail
  refine (hW.out [] (s.extract 0 p) WA (by rw [List.length_nil, hz1]; omega) hst.out).mono ?_
  rintro e w1 ⟨rfl, c1, h1⟩
  go_wp2_with fail
  refine (hW.out _ x w1 (by rw [List.nil_append, S.length_data, hz1]; omega) h1.out).mono ?_
  rintro e w2 ⟨rfl, c2, h2⟩
  go_wp2_with fail
  refine (hW.out _ (s.extract (p + r) s.size) w2 (by rw [List.length_append, List.nil_append, S.length_data, S.length_data, hz1, hz2]; omega) h2.out).mono ?_
  rintro e w3 ⟨rfl, c3, h3⟩
  go_wp2_with fail
  refine (hS.out _ w3 h3.out).mono ?_
  rintro e w4 ⟨rfl, h4⟩
  rw [hfin.out]
  go_wp2_with fail
  refine (hT.out _ w4 rfl h4.out).mono ?_
  rintro e w5 ⟨rfl, h5⟩
  go_wp2
  go_ret
  exact ⟨rfl, h5.out.1, h5.out.2⟩
end Go.Proofs.YtlojgpkajkedeaaGreatDoor
/- Edited: the walk of the statement. -/
namespace Go.Proofs.YtlojgpkajkedeaaGreatDoor
open Go.RowKit

set_option maxHeartbeats 2000000 in
theorem pick_m (m : Int) (c : Int) (w : World) (hm : 0 < m) (hm2 : m ≤ 100000) (h1 : -9223372036854775808 ≤ c) (h2 : c ≤ 9223372036854775807) :
    Calls Tryz.prog 21 #[.int .i64 c, .int .i64 m] w fun e w' => ∃ p : Nat, (p : Int) < m ∧ e = .returned (.int .i64 (p : Nat)) ∧ w = w' := by
  by_cases hc : c < 0
  · obtain ⟨p, hp⟩ : ∃ p : Nat, -((c + 1).tmod m) = (p : Int) := ⟨(-((c + 1).tmod m)).toNat, by
      rw [← Int.neg_tmod, Int.tmod_eq_emod_of_nonneg (by omega)]; have := Int.emod_nonneg (-(c + 1)) (show m ≠ 0 by omega); omega⟩
    have hpm : (p : Int) < m := by rw [← hp, ← Int.neg_tmod, Int.tmod_eq_emod_of_nonneg (by omega)]; exact Int.emod_lt_of_pos _ hm
    have hpH := hid hp
    have hm0 : m ≠ 0 := by omega
    clear hp
    go_enter Tryz.func21, Tryz.ntmps21
    go_wp2
    go_ret
    refine ⟨p, hpm, ?_, rfl⟩
    rw [← hpH.out]; rfl
  · obtain ⟨p, hp⟩ : ∃ p : Nat, c % m = (p : Int) := ⟨(c % m).toNat, by have := Int.emod_nonneg c (show m ≠ 0 by omega); omega⟩
    have hpm : (p : Int) < m := by rw [← hp]; exact Int.emod_lt_of_pos _ hm
    have hpH := hid hp
    have hm0 : m ≠ 0 := by omega
    clear hp
    go_enter Tryz.func21, Tryz.ntmps21
    go_wp2
    go_ret
    refine ⟨p, hpm, ?_, rfl⟩
    rw [← hpH.out]; rfl

/-- A step. -/
structure Stp where
  at_ : Int
  rem : Int
  x : ByteArray
def stpCells (z : Stp) : List Value := [.int .i64 z.at_, .int .i64 z.rem, .string z.x]
/-- Steps that lie in memory. -/
def StepsIn (a : Option Addr) (zs : List Stp) (w : World) : Prop := ∀ (i : Nat) (z : Stp), zs[i]? = some z → ∃ b o, a = some ⟨b, o, none⟩ ∧ b < w.heap.size ∧ (∀ j u, (stpCells z)[j]? = some u → w.cell? ⟨b, o + i * 3 + j, none⟩ = some u) ∧ (-9223372036854775808 ≤ z.at_ ∧ z.at_ ≤ 9223372036854775807) ∧ (-9223372036854775808 ≤ z.rem ∧ z.rem ≤ 9223372036854775807) ∧ z.x.size ≤ 281474976710656

theorem titles_few (s : ByteArray) (hs : s.size ≤ 1500) : (titlesOf s.data.toList).length ≤ 20000 := by
  rw [titlesOf_blks]
  have h1 := titL_cnt (blksOf s) 0
  have h2 := (blks_well s hs).2.1
  omega

set_option maxRecDepth 100000 in
set_option maxHeartbeats 4000000 in
theorem editedLong_any (s : ByteArray) (a0 : Option Addr) (n cap : Nat) (w : World) (hs : 1500 < s.size) (henv : EnvP w.heap.size w) :
    Calls Tryz.prog 13 #[.string s, .slice a0 n cap] w fun e w' => e = .returned (.bool true) ∧ Below w.heap.size w w' := by
  have hP := hid (paging_any w henv)
  have hN := hid (fun w1 => newSheet_long s w1 hs)
  have hs2 : (1500 : Int) < (s.size : Int) := by omega
  clear henv hs
  go_enter Tryz.func13, Tryz.ntmps13
  go_wp2_with fail
  refine hP.out.mono ?_
  rintro e w1 ⟨rfl, h1⟩
  have h1H := hid h1
  clear h1
  go_wp2_with fail
  refine (hN.out w1).mono ?_
  rintro e w2 ⟨rfl, rfl⟩
  go_wp2
  go_ret
  exact ⟨by rfl, h1H.out⟩

set_option maxRecDepth 100000 in
set_option maxHeartbeats 8000000 in
theorem edited_any (s : ByteArray) (a0 : Option Addr) (zs : List Stp) (cap : Nat) (w : World) (hz : StepsIn a0 zs w) (hzl : zs.length ≤ 281474976710656) (hs : s.size ≤ 1500) (henv : EnvP w.heap.size w) :
    Calls Tryz.prog 13 #[.string s, .slice a0 zs.length cap] w fun e w' => e = .returned (.bool true) ∧ Below w.heap.size w w' := by
  have hP := hid (paging_any w henv)
  have hN : Hid (∀ w1, Below w.heap.size w w1 → Calls Tryz.prog 38 #[.string s] w1 fun e w' => e = .returned (.tuple #[.pointer (some ⟨w1.heap.size, 0, none⟩), .int .i64 0]) ∧ Hid (Below w.heap.size w w' ∧ SheetIn w1.heap.size w' s)) := hid (fun w1 h1 => by
    refine (newSheet_any s w1 hs ((henv.below h1).mono h1.size)).mono ?_
    rintro e w' ⟨rfl, g1, g2⟩
    exact ⟨rfl, hid ⟨h1.trans (g1.mono h1.size), g2⟩⟩)
  have hs2 : ¬ (1500 : Int) < (s.size : Int) := by omega
  have henvH := hid henv
  have hzH := hid hz
  clear hz henv
  go_enter Tryz.func13, Tryz.ntmps13
  go_wp2_with fail
  refine hP.out.mono ?_
  rintro e w1 ⟨rfl, h1⟩
  have hNN := hid (hN.out w1 h1)
  obtain ⟨sb, hsb⟩ : ∃ sb, w1.heap.size = sb := ⟨_, rfl⟩
  have hwsb : w.heap.size ≤ sb := by rw [← hsb]; exact h1.size
  rw [hsb] at hNN
  clear h1 hsb hP hN
  go_wp2_with fail
  refine hNN.out.mono ?_
  rintro e w2 ⟨rfl, h2⟩
  clear hNN
  -- the calls, of any text
  have hPg : Hid (∀ (t : ByteArray) (wx : World), Below w.heap.size w wx ∧ SheetIn sb wx t → Calls Tryz.prog 32 #[.string t] wx fun e w' => e = .returned (.tuple #[.string (S.B (pageOf t.data.toList)), .int .i64 0]) ∧ Hid (Below w.heap.size w w' ∧ SheetIn sb w' t)) := hid (fun t wx hx => by
    refine (page_any t wx hx.2.1 ((henvH.out.below hx.1).mono hx.1.size)).mono ?_
    rintro e w' ⟨rfl, g1⟩
    exact ⟨rfl, hid ⟨hx.1.trans (g1.mono hx.1.size), hx.2.below g1⟩⟩)
  have hTt : Hid (∀ (t : ByteArray) (wx : World), Below w.heap.size w wx ∧ SheetIn sb wx t → Calls Tryz.prog 39 #[.string t] wx fun e w' => ∃ a cp, e = .returned (.tuple #[.slice a (titlesOf t.data.toList).length cp, .int .i64 0]) ∧ Hid (Below w.heap.size w w' ∧ SheetIn sb w' t ∧ TRow (fun _ => True) w' a (titlesOf t.data.toList))) := hid (fun t wx hx => by
    refine (titles_any t wx hx.2.1 ((henvH.out.below hx.1).mono hx.1.size) (by have := titles_few t hx.2.1; omega)).mono ?_
    rintro e w' ⟨B, a, cp, rfl, _, g1, g2⟩
    exact ⟨a, cp, rfl, hid ⟨hx.1.trans (g2.mono hx.1.size), hx.2.below g2, g1.row (fun _ _ => trivial)⟩⟩)
  have hTs : Hid (∀ (t : ByteArray) (a : Option Addr) (wx : World), Below w.heap.size w wx ∧ SheetIn sb wx t ∧ TRow (fun _ => True) wx a (titlesOf t.data.toList) → Calls Tryz.prog 40 #[.pointer (some ⟨sb, 0, none⟩)] wx fun e w' => ∃ a' cp', e = .returned (.slice a' (titlesOf t.data.toList).length cp') ∧ Hid (Below w.heap.size w w' ∧ SheetIn sb w' t ∧ TRow (fun _ => True) w' a (titlesOf t.data.toList) ∧ TRow (fun _ => True) w' a' (titlesOf t.data.toList))) := hid (fun t a wx hx => by
    refine (stitles_any sb t wx hx.2.1).mono ?_
    rintro e w' ⟨a', cp', rfl, g1, g2⟩
    exact ⟨a', cp', rfl, hid ⟨hx.1.trans (g2.mono hx.1.size), hx.2.1.below g2, hx.2.2.move (.of g2), g1.row (fun _ _ => trivial)⟩⟩)
  have hTx : Hid (∀ (t : ByteArray) (wx : World), SheetIn sb wx t → Calls Tryz.prog 41 #[.pointer (some ⟨sb, 0, none⟩)] wx fun e w' => e = .returned (.string t) ∧ wx = w') := hid (fun t wx hx => (stext_any sb t wx hx).mono (fun e w' ⟨g1, g2⟩ => ⟨g1, g2.symm⟩))
  have hSp : Hid (∀ (t : ByteArray) (a a' : Option Addr) (wx : World), Below w.heap.size w wx ∧ SheetIn sb wx t ∧ TRow (fun _ => True) wx a (titlesOf t.data.toList) ∧ TRow (fun _ => True) wx a' (titlesOf t.data.toList) → Calls Tryz.prog 42 #[.pointer (some ⟨sb, 0, none⟩)] wx fun e w' => e = .returned (.string (S.B (pageOf t.data.toList))) ∧ Hid (Below w.heap.size w w' ∧ SheetIn sb w' t ∧ TRow (fun _ => True) w' a (titlesOf t.data.toList) ∧ TRow (fun _ => True) w' a' (titlesOf t.data.toList))) := hid (fun t a a' wx hx => by
    refine (spage_any sb t wx hx.2.1).mono ?_
    rintro e w' ⟨rfl, g2⟩
    exact ⟨rfl, hid ⟨hx.1.trans (g2.mono hx.1.size), hx.2.1.below g2, hx.2.2.1.move (.of g2), hx.2.2.2.move (.of g2)⟩⟩)
  go_wp2
  go_loopw [5, 8, 9, 10, 11, 12, 13, 14, 15, 16, 17, 18, 19] (fun s5 s8 s9 _ _ _ _ _ _ _ _ _ _ wr => ∃ (i : Nat) (t : ByteArray), i ≤ zs.length ∧ s5 = .bool true ∧ s8 = .string t ∧ s9 = .int .i64 i ∧ t.size ≤ 1500 ∧ Hid (Below w.heap.size w wr ∧ SheetIn sb wr t)) (fun _ _ s9 _ _ _ _ _ _ _ _ _ _ _ => zs.length + 1 - (intOf s9).toNat)
  case atStart => exact ⟨0, s, Nat.zero_le _, rfl, rfl, rfl, hs, h2⟩
  case round =>
    obtain ⟨i, t, hil, rfl, rfl, rfl, hts, hrel'⟩ := hrel
    obtain ⟨wo, hwo⟩ : ∃ wo, wo = wr := ⟨_, rfl⟩
    subst hwo
    have hI0 : (i : Int) ≤ (zs.length : Int) := by omega
    have hTn := titles_few t hts
    obtain ⟨P, hPl⟩ : ∃ P, S.B (pageOf t.data.toList) = P := ⟨_, rfl⟩
    have hPP := hid (hPg.out t wo hrel'.out)
    have hQt := hid (hTt.out t)
    have hRt := hid (hTs.out t)
    have hYt := hid (hSp.out t)
    rw [hPl] at hPP hYt
    obtain ⟨T, hTl⟩ : ∃ T, titlesOf t.data.toList = T := ⟨_, rfl⟩
    rw [hTl] at hTn hQt hRt hYt
    clear hPl hTl hrel'
    go_wp2_with fail
    refine hPP.out.mono ?_
    rintro e w3 ⟨rfl, h3⟩
    have hQQ := hid (hQt.out w3 h3.out)
    clear hPP
    go_wp2_with fail
    refine hQQ.out.mono ?_
    rintro e w4 ⟨a1, cp1, rfl, h4⟩
    have hRR := hid (hRt.out a1 w4 h4.out)
    clear hQQ h3
    go_wp2_with fail
    refine hRR.out.mono ?_
    rintro e w5 ⟨a2, cp2, rfl, h5⟩
    have hXX := hid (hTx.out t w5 h5.out.2.1)
    have hYY := hid (hYt.out a1 a2 w5 h5.out)
    clear hRR h4
    go_wp2_with fail
    refine hXX.out.mono ?_
    rintro e w' ⟨rfl, rfl⟩
    go_wp2_with fail
    refine hYY.out.mono ?_
    rintro e w6 ⟨rfl, h6⟩
    clear hXX hYY h5 hQt hRt hYt
    go_wp2
    go_loopw [15] (fun s15 wx => ∃ k : Nat, k ≤ T.length ∧ s15 = .int .i64 k ∧ Hid (Below w.heap.size w wx ∧ SheetIn sb wx t ∧ TRow (fun _ => True) wx a1 T ∧ TRow (fun _ => True) wx a2 T)) (fun s15 _ => T.length - (intOf s15).toNat)
    case atStart => exact ⟨0, Nat.zero_le _, rfl, h6⟩
    case round =>
      obtain ⟨k, hk, rfl, hrel2⟩ := hrel
      by_cases hlt : k < T.length
      · obtain ⟨x, hx⟩ : ∃ x, T[k]? = some x := ⟨T[k], List.getElem?_eq_getElem hlt⟩
        have hnx : Hid (Below w.heap.size w wr.drew ∧ SheetIn sb wr.drew t ∧ TRow (fun _ => True) wr.drew a1 T ∧ TRow (fun _ => True) wr.drew a2 T) := hid (by
          have hd : Below wr.heap.size wr wr.drew := (Below.refl _ _).drew
          obtain ⟨h1, h2, h3, h4⟩ := hrel2.out
          exact ⟨h1.trans (hd.mono h1.size), h2.below hd, h3.move (.of hd), h4.move (.of hd)⟩)
        obtain ⟨g1, e1, _, _, hc1⟩ := hrel2.out.2.2.1 k x hx
        obtain ⟨g2, e2, _, _, hc2⟩ := hrel2.out.2.2.2 k x hx
        subst e1 e2
        obtain ⟨lv, lt, ll⟩ := x
        simp only [three] at hc1 hc2
        have c0 := hc1 0 _ rfl
        have c1 := hc1 1 _ rfl
        have c2 := hc1 2 _ rfl
        have d0 := hc2 0 _ rfl
        have d1 := hc2 1 _ rfl
        have d2 := hc2 2 _ rfl
        rw [Nat.add_zero] at c0 d0
        have hi1 : (k : Int) < (T.length : Int) := by omega
        have hi0 : (0 : Int) ≤ (k : Int) := by omega
        clear hc1 hc2 hx hrel2
        go_wp2_with fail
        go_region
        go_wp2
        go_roundw
        case rel => exact ⟨k + 1, by omega, by go_num, hnx⟩
        case measure => simp [intOf]; omega
      · have hke : k = T.length := by omega
        subst hke
        obtain ⟨wi, hwi⟩ : ∃ wi, wi = wr := ⟨_, rfl⟩
        subst hwi
        have hSh : Hid (Below w.heap.size w wi ∧ SheetIn sb wi t) := hid ⟨hrel2.out.1, hrel2.out.2.1⟩
        clear hrel2 h6
        by_cases hie : i = zs.length
        · subst hie
          have hE1 : Hid (Calls Tryz.prog 43 #[.pointer (some ⟨sb, 0, none⟩), .int .i64 ((t.size : Int) + 1), .int .i64 0, .string ⟨#[]⟩] wi fun e w' => e = .returned (.int .i64 2) ∧ wi = w') := hid ((edit_behind sb t wi hSh.out.2).mono (fun e w' ⟨g1, g2⟩ => ⟨g1, g2.symm⟩))
          have hE2 : Hid (Calls Tryz.prog 43 #[.pointer (some ⟨sb, 0, none⟩), .int .i64 0, .int .i64 ((t.size : Int) + 1), .string ⟨#[]⟩] wi fun e w' => e = .returned (.int .i64 2) ∧ wi = w') := hid ((edit_more sb t wi hSh.out.2).mono (fun e w' ⟨g1, g2⟩ => ⟨g1, g2.symm⟩))
          have hE3 : Hid (Calls Tryz.prog 43 #[.pointer (some ⟨sb, 0, none⟩), .int .i64 (-1), .int .i64 0, .string ⟨#[]⟩] wi fun e w' => e = .returned (.int .i64 2) ∧ wi = w') := hid ((edit_ahead sb wi).mono (fun e w' ⟨g1, g2⟩ => ⟨g1, g2.symm⟩))
          have hX := hid (hTx.out t wi hSh.out.2)
          go_wp2_with fail
          refine hE1.out.mono ?_
          rintro e w' ⟨rfl, rfl⟩
          go_wp2_with fail
          refine hE2.out.mono ?_
          rintro e w' ⟨rfl, rfl⟩
          go_wp2_with fail
          refine hE3.out.mono ?_
          rintro e w' ⟨rfl, rfl⟩
          go_wp2_with fail
          refine hX.out.mono ?_
          rintro e w' ⟨rfl, rfl⟩
          go_wp2
          go_ret
          exact ⟨by rfl, hSh.out.1⟩
        · have hil2 : i < zs.length := by omega
          obtain ⟨z, hz⟩ : ∃ z, zs[i]? = some z := ⟨zs[i], List.getElem?_eq_getElem hil2⟩
          obtain ⟨b, o, ha0, hbl, hc, hat, hrem, hxs⟩ := hzH.out i z hz
          subst ha0
          obtain ⟨za, zr, zx⟩ := z
          simp only [stpCells] at hc
          simp only at hat hrem hxs
          have hcr : ∀ j u, ([.int .i64 za, .int .i64 zr, .string zx] : List Value)[j]? = some u → wi.cell? ⟨b, o + i * 3 + j, none⟩ = some u := fun j u hu => (hSh.out.1.cell (p := ⟨b, o + i * 3 + j, none⟩) hbl).trans (hc j u hu)
          have z0 := hcr 0 _ rfl
          have z1 := hcr 1 _ rfl
          have z2 := hcr 2 _ rfl
          rw [Nat.add_zero] at z0
          have hJ0 : (0 : Int) ≤ (i : Int) := by omega
          have hJ1 : (i : Int) < (zs.length : Int) := by omega
          have hJ2 : ¬ (i : Int) = (zs.length : Int) := by omega
          have hPk1 : Hid (∀ wy, Calls Tryz.prog 21 #[.int .i64 za, .int .i64 ((t.size : Int) + 1)] wy fun e w' => ∃ p : Nat, (p : Int) < (t.size : Int) + 1 ∧ e = .returned (.int .i64 (p : Nat)) ∧ wy = w') := hid (fun wy => pick_m _ za wy (by omega) (by omega) hat.1 hat.2)
          have hPk2 : Hid (∀ (p : Nat), (p : Int) < (t.size : Int) + 1 → ∀ wy, Calls Tryz.prog 21 #[.int .i64 zr, .int .i64 ((t.size : Int) - (p : Int) + 1)] wy fun e w' => ∃ r : Nat, (r : Int) < (t.size : Int) - (p : Int) + 1 ∧ e = .returned (.int .i64 (r : Nat)) ∧ wy = w') := hid (fun p hp wy => pick_m _ zr wy (by omega) (by omega) hrem.1 hrem.2)
          clear hc hcr hz
          go_wp2_with fail
          refine (hPk1.out _).mono ?_
          rintro e w' ⟨p, hp, rfl, rfl⟩
          have hPk2' := hid (hPk2.out p hp)
          have hwr1 : IntKind.i64.wrap ((t.size : Int) - (p : Int)) = (t.size : Int) - (p : Int) := by rw [IntKind.wrap_i64]; omega
          go_wp2_with fail
          refine (hPk2'.out _).mono ?_
          rintro e w' ⟨r, hr, rfl, rfl⟩
          have hpr : p + r ≤ t.size := by omega
          have hwr2 : IntKind.i64.wrap ((p : Int) + (r : Int)) = (p : Int) + (r : Int) := by rw [IntKind.wrap_i64]; omega
          have hK0 : (0 : Int) ≤ (p : Int) := by omega
          have hK1 : (p : Int) ≤ (t.size : Int) := by omega
          have hK2 : (0 : Int) ≤ (p : Int) + (r : Int) := by omega
          have hK3 : (p : Int) + (r : Int) ≤ (t.size : Int) := by omega
          have hton : ((p : Int) + (r : Int)).toNat = p + r := by omega
          have hz1 : (t.extract 0 p).size = p := by simp; omega
          have hz2 : (t.extract (p + r) t.size).size = t.size - (p + r) := by simp
          have hus := edited_size t zx p r hpr
          obtain ⟨V, hV⟩ : ∃ V, t.extract 0 p ++ zx = V := ⟨_, rfl⟩
          have hVs : V.size = p + zx.size := by rw [← hV, ByteArray.size_append, hz1]
          obtain ⟨u, hu⟩ : ∃ u, edited t zx p r = u := ⟨_, rfl⟩
          have hcat1 : Op.stringOp .add (t.extract 0 p) zx = pure (.string V) := by rw [← hV]; exact str_add _ _ (by rw [hz1]; omega)
          have hcat2 : Op.stringOp .add V (t.extract (p + r) t.size) = pure (.string u) := by rw [← hu]; unfold edited; rw [hV]; exact str_add _ _ (by rw [hz2, hVs]; omega)
          rw [hu] at hus
          have huH := hid hu
          have hEdL : Hid (1500 < u.size → ∀ wy, Below w.heap.size w wy ∧ SheetIn sb wy t → Calls Tryz.prog 43 #[.pointer (some ⟨sb, 0, none⟩), .int .i64 (p : Int), .int .i64 (r : Int), .string zx] wy fun e w' => e = .returned (.int .i64 1) ∧ Hid (Below w.heap.size w w' ∧ SheetIn sb w' t)) := hid (fun hl wy hy => by
            refine (edit_long sb t zx p r wy hy.2 hpr (by omega)).mono ?_
            rintro e w' ⟨rfl, rfl⟩
            exact ⟨rfl, hid hy⟩)
          have hEdA : Hid (u.size ≤ 1500 → ∀ wy, Below w.heap.size w wy ∧ SheetIn sb wy t → Calls Tryz.prog 43 #[.pointer (some ⟨sb, 0, none⟩), .int .i64 (p : Int), .int .i64 (r : Int), .string zx] wy fun e w' => e = .returned (.int .i64 0) ∧ Hid (Below w.heap.size w w' ∧ SheetIn sb w' u)) := hid (fun hl wy hy => by
            have he : EnvP sb wy := (henvH.out.below hy.1).mono hwsb
            refine (edit_any sb t zx p r wy hy.2 hpr (by omega) he).mono ?_
            rintro e w' ⟨rfl, g1, g2⟩
            rw [huH.out] at g2
            exact ⟨rfl, hid ⟨hy.1.trans (g1.mono hwsb), g2⟩⟩)
          have hdr : Hid (Below w.heap.size w wi.drew ∧ SheetIn sb wi.drew t) := hid ⟨hSh.out.1.drew, hSh.out.2.below (Below.refl _ _).drew⟩
          have z2' : wi.drew.cell? ⟨b, o + i * 3 + 2, none⟩ = some (.string zx) := z2
          clear hV hu hVs hPk1 hPk2 hPk2'
          go_upto_region 24 with fail
          go_region
          by_cases hul : 1500 < u.size
          · have hul2 : (1500 : Int) < (u.size : Int) := by omega
            have hE := hid (hEdL.out hul wi.drew hdr.out)
            clear hEdL hEdA hdr hus
            go_wp2_with fail
            refine hE.out.mono ?_
            rintro e w7 ⟨rfl, h7⟩
            go_wp2
            go_roundw
            case rel => exact ⟨i + 1, t, by omega, rfl, rfl, by go_num, hts, h7⟩
            case measure => simp [intOf]; omega
          · have hul2 : ¬ (1500 : Int) < (u.size : Int) := by omega
            have hE := hid (hEdA.out (by omega) wi.drew hdr.out)
            clear hEdL hEdA hdr hus
            go_wp2_with fail
            refine hE.out.mono ?_
            rintro e w7 ⟨rfl, h7⟩
            go_wp2
            go_roundw
            case rel => exact ⟨i + 1, u, by omega, rfl, rfl, by go_num, by omega, h7⟩
            case measure => simp [intOf]; omega
end Go.Proofs.YtlojgpkajkedeaaGreatDoor
