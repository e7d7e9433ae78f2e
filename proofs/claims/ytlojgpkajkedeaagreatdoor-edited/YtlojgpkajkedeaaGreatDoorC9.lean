import Derived.Test.YtlojgpkajkedeaaGreatDoorC7
import Derived.Test.YtlojgpkajkedeaaGreatDoorStr
namespace Go.Proofs.YtlojgpkajkedeaaGreatDoor
open Go.RowKit

theorem ndCells_get (l : List Nd) (i j : Nat) (x : Nd) (h : l[i]? = some x) (hj : j < 5) : (ndCells l)[5 * i + j]? = (five x)[j]? := by
  induction l generalizing i with
  | nil => simp at h
  | cons q r ih =>
    have hl : (five q).length = 5 := rfl
    cases i with
    | zero =>
      simp at h; subst h
      show (five q ++ ndCells r)[5 * 0 + j]? = _
      rw [List.getElem?_append_left (by rw [hl]; omega)]; simp
    | succ i =>
      have := ih i (by simpa using h)
      show (five q ++ ndCells r)[5 * (i + 1) + j]? = _
      rw [List.getElem?_append_right (by rw [hl]; omega), hl, ← this]; congr 1; omega
theorem OwnsN.some {B : Nat} {a : Option Addr} {cp : Nat} {l : List Nd} {w : World} (h : OwnsN B a cp l w) (hpos : 0 < l.length) :
    ∃ g, a = some ⟨g, 0, none⟩ ∧ B ≤ g ∧ l.length ≤ cp ∧ ∀ i j x u, l[i]? = some x → j < 5 → (five x)[j]? = some u → w.cell? ⟨g, 5 * i + j, none⟩ = some u := by
  rcases h.2 with ⟨h1, h2⟩ | ⟨g, cap, cur, h1, h2, h3, h4, h5, h6, h7⟩
  · omega
  · cases h1
    refine ⟨g, rfl, h2, h4, ?_⟩
    intro i j x u hi hj hu
    have hx := ndCells_get l i j x hi hj
    rw [hu] at hx
    have := World.ownsRow.cells h (g := g) rfl (5 * i + j) u hx
    have ha : (⟨g, 0, none⟩ : Addr).add (5 * i + j) = ⟨g, 5 * i + j, none⟩ := by
      simp only [Addr.add]; split
      · rename_i h; simp <;> omega
      · simp <;> omega
    rw [← ha]; exact this

/-- The one content that these texts have. -/
def isA (c : List UInt8) : Prop := c = [97]
def contA (_ : List UInt8) (d : Nat) : List Nd := [ndA d]
theorem contA_ok (c : List UInt8) (h : isA c) : ContOK c (contA c) := by
  unfold isA at h; subst h; exact contOK_A

def oneRuleB : ByteArray := ⟨#[49, 46, 32, 45, 45, 45, 10]⟩
def oneTs : List S.Blk := [.mk 6 1 [] [] false [.mk 7 0 [] [] false [.mk 4 0 [] [] false []]]]
theorem oneTs_good : goodL isA 0 oneTs := by simp [oneTs, goodL, goodB]
theorem oneTs_flat : flatL contA 0 oneTs = [⟨0, 6, 1, ⟨#[]⟩, ⟨#[116, 105, 103, 104, 116]⟩⟩, ⟨1, 7, 0, ⟨#[]⟩, ⟨#[]⟩⟩, ⟨2, 4, 0, ⟨#[]⟩, ⟨#[]⟩⟩] := by
  simp [oneTs, flatL, flatB, textOf, spacingOf, S.B]

theorem oneTree (w : World) (henv : Env w) :
    Calls Tryz.prog 14 #[.string ⟨#[49, 46, 32, 45, 45, 45, 10]⟩] w fun e w' => ∃ g cp, e = .returned (.tuple #[.slice (some ⟨g, 0, none⟩) 3 cp, .int .i64 0]) ∧ w.heap.size ≤ g ∧ 3 ≤ cp ∧ Below w.heap.size w w' ∧
      (w'.cell? ⟨g, 0, none⟩ = some (.int .i64 0) ∧ w'.cell? ⟨g, 1, none⟩ = some (.int .i64 6) ∧ w'.cell? ⟨g, 2, none⟩ = some (.int .i64 1) ∧ w'.cell? ⟨g, 3, none⟩ = some (.string ⟨#[]⟩) ∧ w'.cell? ⟨g, 4, none⟩ = some (.string ⟨#[116, 105, 103, 104, 116]⟩)) ∧
      (w'.cell? ⟨g, 5, none⟩ = some (.int .i64 1) ∧ w'.cell? ⟨g, 6, none⟩ = some (.int .i64 7) ∧ w'.cell? ⟨g, 7, none⟩ = some (.int .i64 0) ∧ w'.cell? ⟨g, 8, none⟩ = some (.string ⟨#[]⟩) ∧ w'.cell? ⟨g, 9, none⟩ = some (.string ⟨#[]⟩)) ∧
      (w'.cell? ⟨g, 10, none⟩ = some (.int .i64 2) ∧ w'.cell? ⟨g, 11, none⟩ = some (.int .i64 4) ∧ w'.cell? ⟨g, 12, none⟩ = some (.int .i64 0) ∧ w'.cell? ⟨g, 13, none⟩ = some (.string ⟨#[]⟩) ∧ w'.cell? ⟨g, 14, none⟩ = some (.string ⟨#[]⟩)) := by
  have hts : (S.readRow (oneRuleB.size + 1) (S.lines oneRuleB.data.toList)).1 = oneTs := S.oneRule_row 6
  refine (tree_any isA contA contA_ok oneRuleB w (by decide) henv oneTs hts oneTs_good (by rw [oneTs_flat]; decide)).mono ?_
  rintro e w' ⟨B, a, cp, h1, h2, h3, h4⟩
  rw [oneTs_flat] at h1 h3
  obtain ⟨g, rfl, h5, h6, h7⟩ := h3.some (by decide)
  refine ⟨g, cp, h1, by omega, h6, h4, ⟨?_, ?_, ?_, ?_, ?_⟩, ⟨?_, ?_, ?_, ?_, ?_⟩, ⟨?_, ?_, ?_, ?_, ?_⟩⟩
  · exact h7 0 0 _ _ rfl (by decide) rfl
  · exact h7 0 1 _ _ rfl (by decide) rfl
  · exact h7 0 2 _ _ rfl (by decide) rfl
  · exact h7 0 3 _ _ rfl (by decide) rfl
  · exact h7 0 4 _ _ rfl (by decide) rfl
  · exact h7 1 0 _ _ rfl (by decide) rfl
  · exact h7 1 1 _ _ rfl (by decide) rfl
  · exact h7 1 2 _ _ rfl (by decide) rfl
  · exact h7 1 3 _ _ rfl (by decide) rfl
  · exact h7 1 4 _ _ rfl (by decide) rfl
  · exact h7 2 0 _ _ rfl (by decide) rfl
  · exact h7 2 1 _ _ rfl (by decide) rfl
  · exact h7 2 2 _ _ rfl (by decide) rfl
  · exact h7 2 3 _ _ rfl (by decide) rfl
  · exact h7 2 4 _ _ rfl (by decide) rfl

set_option maxHeartbeats 4000000 in
theorem blocks_any (w : World) (henv : Env w) :
    Calls Tryz.prog 20 #[] w fun e w' => e = .returned (.bool true) ∧ Below w.heap.size w w' := by
  have hT := hid (oneTree w henv)
  clear henv
  go_enter Tryz.func20, Tryz.ntmps20
  go_wp2_with fail
  refine hT.out.mono ?_
  rintro e w1 ⟨g, cp, rfl, hg, hcp, hb, ⟨a0, a1, a2, a3, a4⟩, ⟨b0, b1, b2, b3, b4⟩, ⟨c0, c1, c2, c3, c4⟩⟩
  have hbH := hid hb
  clear hb
  go_wp2
  go_ret
  exact ⟨rfl, hbH.out⟩

end Go.Proofs.YtlojgpkajkedeaaGreatDoor
namespace Go.Proofs.YtlojgpkajkedeaaGreatDoor
open Go.RowKit

/-- What pick tells of a raw number and four things. -/
def pk (c : Int) : Nat := ((if c < 0 then -(c + 1) else c) % 4).toNat
theorem pk_lt (c : Int) : pk c < 4 := by unfold pk; omega
set_option maxHeartbeats 2000000 in
theorem pick_four (c : Int) (w : World) (h1 : -9223372036854775808 ≤ c) (h2 : c ≤ 9223372036854775807) :
    Calls Tryz.prog 21 #[.int .i64 c, .int .i64 4] w fun e w' => e = .returned (.int .i64 (pk c : Nat)) ∧ w = w' := by
  by_cases hc : c < 0
  · have hp : Hid (-((c + 1).tmod 4) = (pk c : Nat)) := hid (by
      unfold pk; rw [if_pos hc, ← Int.neg_tmod, Int.tmod_eq_emod_of_nonneg (by omega)]; omega)
    go_enter Tryz.func21, Tryz.ntmps21
    go_wp2
    go_ret
    refine ⟨?_, rfl⟩
    rw [← hp.out]; rfl
  · have hp : Hid (c % 4 = (pk c : Nat)) := hid (by unfold pk; rw [if_neg hc]; omega)
    go_enter Tryz.func21, Tryz.ntmps21
    go_wp2
    go_ret
    refine ⟨?_, rfl⟩
    rw [← hp.out]; rfl

namespace S
theorem lines_cut (p r : List UInt8) (h : 10 ∉ p) : lines (p ++ 10 :: r) = p :: lines r := by
  unfold lines
  rw [if_neg (by simp)]
  by_cases hr : r = []
  · subst hr
    rw [if_pos rfl]
    have : Lib.trimSuffix (p ++ [10]) [10] = p := by
      unfold Lib.trimSuffix
      rw [if_pos (by unfold Lib.hasSuffix; simp)]
      simp
    rw [this, nl_none p (List.count_eq_zero.2 h)]
  · rw [if_neg hr]
    have : Lib.trimSuffix (p ++ 10 :: r) [10] = p ++ 10 :: Lib.trimSuffix r [10] := by
      unfold Lib.trimSuffix
      by_cases hs : Lib.hasSuffix r [10] = true
      · have hs' : Lib.hasSuffix (p ++ 10 :: r) [10] = true := by
          unfold Lib.hasSuffix at *
          simp only [List.isSuffixOf_iff_suffix] at *
          exact hs.trans ((List.suffix_cons 10 r).trans (List.suffix_append p _))
        rw [if_pos hs, if_pos hs']
        have hl : 0 < r.length := List.length_pos_iff.2 hr
        simp only [List.length_append, List.length_cons, List.length_nil]
        rw [show p.length + (r.length + 1) - (0 + 1) = p.length + r.length from by omega, List.take_append, List.take_of_length_le (by omega)]
        congr 1
        rw [show p.length + r.length - p.length = (r.length - (0 + 1)) + 1 from by omega, List.take_succ_cons]
      · have hs' : ¬ Lib.hasSuffix (p ++ 10 :: r) [10] = true := by
          unfold Lib.hasSuffix at *
          simp only [List.isSuffixOf_iff_suffix] at *
          rintro ⟨t, ht⟩
          apply hs
          obtain ⟨r', b, rfl⟩ : ∃ r' b, r = r' ++ [b] := ⟨r.dropLast, r.getLast hr, (List.dropLast_concat_getLast hr).symm⟩
          have : t ++ [10] = (p ++ 10 :: r') ++ [b] := by rw [ht]; simp
          have h2 := (List.append_inj' this rfl).2
          simp at h2; subst h2
          exact List.suffix_append _ _
        rw [if_neg hs, if_neg hs']
    rw [this, nl_line p _ h]
theorem lines_whole (p : List UInt8) (h : 10 ∉ p) (hne : p ≠ []) : lines p = [p] := by
  unfold lines; rw [if_neg hne]
  have : Lib.trimSuffix p [10] = p := by
    unfold Lib.trimSuffix
    rw [if_neg]
    unfold Lib.hasSuffix
    simp only [List.isSuffixOf_iff_suffix]
    rintro ⟨t, ht⟩
    apply h; rw [← ht]; simp
  rw [this, nl_none p (List.count_eq_zero.2 h)]
theorem extract_data (s : ByteArray) (f k : Nat) : (s.extract f k).data.toList = (s.data.toList.drop f).take (k - f) := by
  rw [Lib.extract_data]
theorem step_cut (l : List UInt8) (f k : Nat) (hf : f ≤ k) (hk : l[k]? = some 10) (h : 10 ∉ (l.drop f).take (k - f)) : lines (l.drop f) = (l.drop f).take (k - f) :: lines (l.drop (k + 1)) := by
  obtain ⟨hl, hx⟩ := List.getElem?_eq_some_iff.1 hk
  have e : l.drop f = (l.drop f).take (k - f) ++ 10 :: l.drop (k + 1) := by
    conv => lhs; rw [← List.take_append_drop (k - f) (l.drop f)]
    rw [List.drop_drop, show f + (k - f) = k from by omega, List.drop_eq_getElem_cons hl, hx]
  conv => lhs; rw [e]
  exact lines_cut _ _ h
theorem step_on (l : List UInt8) (f k : Nat) (hf : f ≤ k) (x : UInt8) (hk : l[k]? = some x) (hx : x ≠ 10) (h : 10 ∉ (l.drop f).take (k - f)) : 10 ∉ (l.drop f).take (k + 1 - f) := by
  rw [show k + 1 - f = (k - f) + 1 from by omega, List.take_add_one, List.getElem?_drop, show f + (k - f) = k from by omega, hk]
  simp only [Option.toList, List.mem_append, List.mem_singleton, not_or]
  exact ⟨h, fun e => hx e.symm⟩
end S

/-- The lines that a text's first bytes tell. -/
structure LinesRel (w : World) (s : ByteArray) (k f : Nat) (os : List ByteArray) (a : Option Addr) (cp : Nat) (wr : World) : Prop where
  le : f ≤ k
  len : k ≤ s.size
  count : os.length ≤ f
  none : 10 ∉ (s.data.toList.drop f).take (k - f)
  spec : S.lines s.data.toList = dat os ++ S.lines (s.data.toList.drop f)
  own : wr.ownsRow w.heap.size 9 1 (.slice a os.length cp) os.length (os.map Value.string)
  below : Below w.heap.size w wr

set_option maxRecDepth 100000 in
set_option maxHeartbeats 4000000 in
theorem lines_any (s : ByteArray) (w : World) (hs : s.size ≤ 1048576) :
    Calls Tryz.prog 22 #[.string s] w fun e w' => ∃ os a cp, e = .returned (.slice a os.length cp) ∧ Hid (dat os = S.lines s.data.toList) ∧ w'.ownsRow w.heap.size 9 1 (.slice a os.length cp) os.length (os.map Value.string) ∧ Below w.heap.size w w' := by
  obtain ⟨i0, hi, hz0, hz1, hz2⟩ := info_parts Tryz.infoStr
  go_enter Tryz.func22, Tryz.ntmps22
  go_wp2
  go_loopw [3, 4, 5] (fun v f' i wr => ∃ (k f : Nat) (os : List ByteArray) (a : Option Addr) (cp : Nat), v = .slice a os.length cp ∧ f' = .int .i64 f ∧ i = .int .i64 k ∧ LinesRel w s k f os a cp wr) (fun _ _ i _ => s.size - (intOf i).toNat)
  case atStart => exact ⟨0, 0, [], none, 0, rfl, rfl, rfl, ⟨Nat.le_refl _, Nat.zero_le _, Nat.le_refl _, by simp, by simp [dat], World.ownsRow_nil _ _ _ _, Below.refl _ _⟩⟩
  case round =>
    obtain ⟨k, f, os, a, cp, rfl, rfl, rfl, hrel'⟩ := hrel
    have hr := hid hrel'
    have hle := hrel'.le
    have hlen := hrel'.len
    have hcnt := hrel'.count
    have hszr : w.heap.size ≤ wr.heap.size := hrel'.below.size
    clear hrel'
    by_cases hlt : k < s.size
    · have hg := S.get_data s k hlt
      by_cases hx : s[k] = 10
      · have hxn : s[k].toNat = 10 := by rw [hx]; rfl
        rw [hx] at hg
        have hst := hid (S.step_cut _ f k hle hg hr.out.none)
        have hown2 := hid (fun ob => hr.out.own.alloc ob)
        have hnew : Hid (∀ j u, ([Value.string (s.extract f k)] : List Value)[j]? = some u → (wr.alloc (.cells #[.string (s.extract f k)] 9)).cell? ((⟨wr.heap.size, 0, none⟩ : Addr).add j) = some u) := hid (by
          intro j u hj
          have hj0 : j = 0 := by have := (List.getElem?_eq_some_iff.1 hj).1; simpa using this
          subst hj0; simp at hj; subst hj
          exact cell_blk (alloc_new _ _) 0 _ rfl)
        clear hg hx
        go_wp2_with (at_builtin; refine wpList_append_lies _ (by rfl) _ _ 32 (by rfl) w.heap.size 9 i0 (.string ⟨#[]⟩) 1 16 Tryz.underlying32 hi hz0 hz1 hz2 (by rfl) (by omega) (.slice a os.length cp) os.length (os.map Value.string) (by rfl) (hown2.out _) ⟨wr.heap.size, 0, none⟩ 1 1 [.string (s.extract f k)] (by rfl) (by rfl) hnew.out (by intro u hu; simp at hu; subst hu; rfl) (by omega) (by unfold maxLen; omega) (by omega) (by simp; omega) (wr.heap.size + 1) (by simp) ?_)
        intro g cap1 w1 hown1 hgrow hat hltg
        have hlt0 := hr.out.own.lt
        have hR : Hid (LinesRel w s (k + 1) (k + 1) (os ++ [s.extract f k]) (some ⟨g, 0, none⟩) cap1 w1) := hid (by
          refine ⟨Nat.le_refl _, by omega, by simp; omega, by simp, ?_, ?_, ?_⟩
          · rw [hr.out.spec, hst.out, ← S.extract_data]; simp [dat]
          · rw [List.length_append, List.map_append]; exact hown1
          · exact Below.grown (hr.out.below.alloc hszr _) hgrow (by simp; omega) (fun q hq => (hlt0 q hq).1))
        clear hown1 hgrow hat hltg hlt0
        go_wp2
        go_roundw
        case rel => exact ⟨k + 1, k + 1, os ++ [s.extract f k], some ⟨g, 0, none⟩, cap1, by simp, by go_num, by go_num, hR.out⟩
        case measure => simp [intOf]; omega
      · have hxn : ¬ s[k].toNat = 10 := fun e => hx (UInt8.toNat_inj.1 (by rw [e]; rfl))
        have hxb : (((s[k].toNat : Nat) : Int) == 10) = false := by rw [beq_eq_false_iff_ne]; omega
        have hst := hid (S.step_on _ f k hle _ hg hx hr.out.none)
        clear hg hx hxn
        go_wp2
        go_roundw
        case rel => exact ⟨k + 1, f, os, a, cp, rfl, rfl, by go_num, ⟨by omega, by omega, hr.out.count, hst.out, hr.out.spec, hr.out.own, hr.out.below⟩⟩
        case measure => simp [intOf]; omega
    · have hkl : k = s.size := by omega
      subst hkl
      have hn0 := hr.out.none
      rw [List.take_of_length_le (by rw [List.length_drop, S.length_data]; exact Nat.le_refl _)] at hn0
      by_cases hfl : f < s.size
      · have hst := hid (S.lines_whole _ hn0 (by intro e; have := congrArg List.length e; rw [List.length_drop, S.length_data] at this; simp at this; omega))
        have hown2 := hid (fun ob => hr.out.own.alloc ob)
        have hnew : Hid (∀ j u, ([Value.string (s.extract f s.size)] : List Value)[j]? = some u → (wr.alloc (.cells #[.string (s.extract f s.size)] 9)).cell? ((⟨wr.heap.size, 0, none⟩ : Addr).add j) = some u) := hid (by
          intro j u hj
          have hj0 : j = 0 := by have := (List.getElem?_eq_some_iff.1 hj).1; simpa using this
          subst hj0; simp at hj; subst hj
          exact cell_blk (alloc_new _ _) 0 _ rfl)
        clear hn0
        go_wp2_with (at_builtin; refine wpList_append_lies _ (by rfl) _ _ 32 (by rfl) w.heap.size 9 i0 (.string ⟨#[]⟩) 1 16 Tryz.underlying32 hi hz0 hz1 hz2 (by rfl) (by omega) (.slice a os.length cp) os.length (os.map Value.string) (by rfl) (hown2.out _) ⟨wr.heap.size, 0, none⟩ 1 1 [.string (s.extract f s.size)] (by rfl) (by rfl) hnew.out (by intro u hu; simp at hu; subst hu; rfl) (by omega) (by unfold maxLen; omega) (by omega) (by simp; omega) (wr.heap.size + 1) (by simp) ?_)
        intro g cap1 w1 hown1 hgrow hat hltg
        have hlt0 := hr.out.own.lt
        have hb : Hid (Below w.heap.size w w1) := hid (Below.grown (hr.out.below.alloc hszr _) hgrow (by simp; omega) (fun q hq => (hlt0 q hq).1))
        have hown1H := hid hown1
        clear hown1 hgrow hat hltg hlt0
        go_wp2
        go_ret
        refine ⟨os ++ [s.extract f s.size], some ⟨g, 0, none⟩, cap1, by rw [List.length_append]; rfl, hid ?_, ?_, hb.out⟩
        · rw [hr.out.spec, hst.out, ← S.drop_data]; simp [dat]
        · rw [List.length_append, List.map_append]; exact hown1H.out
      · have hfe : f = s.size := by omega
        subst hfe
        go_wp2
        go_ret
        refine ⟨os, a, cp, rfl, hid ?_, hr.out.own, hr.out.below⟩
        rw [hr.out.spec, List.drop_eq_nil_of_le (by rw [S.length_data]; exact Nat.le_refl _)]; simp [S.lines]

end Go.Proofs.YtlojgpkajkedeaaGreatDoor
