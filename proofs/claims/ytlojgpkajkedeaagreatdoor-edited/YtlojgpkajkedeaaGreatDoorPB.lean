import Derived.Test.YtlojgpkajkedeaaGreatDoorShelfB
import Derived.Test.YtlojgpkajkedeaaGreatDoorW9
import Derived.Lib.OthersKept
import Derived.Lib.UnsafeStr
import Derived.RegionTactic
/- A page's own builder: what is written into it. -/
namespace Go.Proofs.YtlojgpkajkedeaaGreatDoor
open Go.RowKit

theorem Tryz.sizeBld : (Tryz.prog.info? 104).map (·.size) = some 2 := by kernel_rfl
theorem Tryz.liesPage : liesAt Tryz.prog Tryz.prog.depth 124 (2 / Tryz.prog.cellsOf 124) 0 104 1 = true := by kernel_rfl
theorem Tryz.infoU8 : (Tryz.prog.info? 5).map (fun i => (i.zero, i.size, i.bytes)) = some (some (.int .u8 0), 1, 1) := by kernel_rfl
theorem Tryz.cellsU8 : Tryz.prog.cellsOf 5 = 1 := by kernel_rfl

/-- A page that holds bytes. -/
abbrev PageF (B b : Nat) (l : List UInt8) (w : World) : Prop := Lib.IsBuilderF 124 5 B b (Lib.byteCells l) w
/-- What a call that writes does. -/
def Wrote (T : TypeId) (B b : Nat) (l : List UInt8) (w : World) (w' : World) : Prop := Lib.IsBuilderF T 5 B b (Lib.byteCells l) w' ∧ Below B w w' ∧ Lib.OthersKept 5 (some b) w w'
theorem Wrote.trans {T : TypeId} {B b : Nat} {l l2 : List UInt8} {w w1 w2 : World} (h : Wrote T B b l w w1) (h2 : Wrote T B b l2 w1 w2) : Wrote T B b l2 w w2 := ⟨h2.1, h.2.1.trans h2.2.1, h.2.2.trans h2.2.2⟩
theorem Wrote.refl {T : TypeId} {B b : Nat} {l : List UInt8} {w : World} (h : Lib.IsBuilderF T 5 B b (Lib.byteCells l) w) : Wrote T B b l w w := ⟨h, Below.refl _ _, Lib.OthersKept.refl _ _ _⟩

set_option maxHeartbeats 1000000 in
set_option maxRecDepth 100000 in
theorem pcheck_used (b : Nat) (w : World) (h0 : w.cell? ⟨b, 0, none⟩ = some (.pointer (some ⟨b, 0, none⟩))) :
    Calls Tryz.prog 81 #[.pointer (some ⟨b, 0, none⟩)] w fun e w' => e = .returned (.tuple #[]) ∧ w' = w := by
  obtain ⟨j, hj, _⟩ := Option.map_eq_some_iff.1 Tryz.sizeBld
  go_enter Tryz.func81, Tryz.ntmps81
  go_wp2
  rw [Lib.run_neq_ptr_same w _ Tryz.underlying102 hj]
  go_wp2
  go_end0
  exact ⟨rfl, rfl⟩
set_option maxHeartbeats 1000000 in
set_option maxRecDepth 100000 in
theorem pcheck_fresh (b : Nat) (w : World) (h0 : w.cell? ⟨b, 0, none⟩ = some (.pointer none)) (hsh : w.shape? b = some (124, 2)) (hfz : w.frozen? ⟨b, 0, none⟩ = false) :
    Calls Tryz.prog 81 #[.pointer (some ⟨b, 0, none⟩)] w fun e w' => e = .returned (.tuple #[]) ∧ w' = w.setCell ⟨b, 0, none⟩ (.pointer (some ⟨b, 0, none⟩)) := by
  obtain ⟨j, hj, hjs⟩ := Option.map_eq_some_iff.1 Tryz.sizeBld
  go_enter Tryz.func81, Tryz.ntmps81
  go_wp2
  rw [Lib.run_to_unsafe w ⟨b, 0, none⟩ Tryz.underlying102 Tryz.underlying171 hj (by rw [hjs]; decide) hsh (Nat.zero_lt_succ 1)]
  simp only [Result.andThen]
  rw [Oper.upon_value]
  go_wp2
  rw [run_callFunc_extern Tryz.func108 (by kernel_rfl) (by kernel_rfl) (by kernel_rfl) (e := Extern.AbiNoEscape.same) (by kernel_rfl)]
  rw [Lib.run_noEscape]
  simp only [Result.andThen]
  rw [Oper.upon_value]
  go_wp2
  rw [Lib.run_from_unsafe w ⟨b, 0, none⟩ Tryz.underlying171 Tryz.underlying102 hj hsh Tryz.liesPage]
  simp only [Result.andThen]
  rw [Oper.upon_value]
  go_wp2
  go_end0
  exact ⟨rfl, rfl⟩
theorem pcheck (B b : Nat) (bs : List Value) (w : World) (h : Lib.IsBuilderF 124 5 B b bs w) :
    Calls Tryz.prog 81 #[.pointer (some ⟨b, 0, none⟩)] w fun e w' => e = .returned (.tuple #[]) ∧ Lib.BuilderAtF 124 5 B b (.pointer (some ⟨b, 0, none⟩)) bs w' ∧ Below B w w' ∧ Lib.OthersKept 5 (some b) w w' := by
  rcases h with h | h
  · refine (pcheck_fresh b w h.cell0 h.shape h.frozen0).mono ?_
    rintro e w' ⟨rfl, rfl⟩
    exact ⟨rfl, h.used _, (Below.refl B w).setCell (p := ⟨b, 0, none⟩) h.1 _, (Lib.OthersKept.refl _ _ _).setCell ⟨b, 0, none⟩ rfl _⟩
  · refine (pcheck_used b w h.cell0).mono ?_
    rintro e w' ⟨rfl, rfl⟩
    exact ⟨rfl, h, Below.refl B _, Lib.OthersKept.refl _ _ _⟩
theorem own_row5 {w : World} {B : Nat} {v : Value} {n : Nat} {xs : List Value} (h : w.ownsRowF B 5 1 v n xs) (g : Nat) (hg : v.ownBlock = some g) : ∃ c fz, w.heap[g]? = some (.cells c 5 fz) := by
  rcases h.2 with ⟨h1, _⟩ | ⟨g', cap, cur, fz, hv, _, hh, _⟩
  · rw [h1] at hg; simp [Value.ownBlock] at hg
  · rw [hv] at hg
    have : g' = g := by simpa [Value.ownBlock] using hg
    subst this
    exact ⟨cur, fz, hh⟩

set_option maxHeartbeats 2000000 in
set_option maxRecDepth 100000 in
theorem pwrite (B b : Nat) (l : List UInt8) (s : ByteArray) (w : World) (h : PageF B b l w) (hlen : l.length + s.size ≤ 1000000000) (hBw : B ≤ w.heap.size) :
    Calls Tryz.prog 60 #[.pointer (some ⟨b, 0, none⟩), .string s] w fun e w' => e = .returned (.tuple #[.int .i64 s.size, .nilIface]) ∧ Wrote 124 B b (l ++ s.data.toList) w w' := by
  obtain ⟨i0, hi, hz0, hz1, hz2⟩ := info_parts Tryz.infoU8
  have hC := hid (pcheck B b (Lib.byteCells l) w h)
  go_enter Tryz.func60, Tryz.ntmps60
  go_wp2_with (go_at_call 81; refine hC.out.mono ?_)
  rintro e w1 ⟨rfl, h1, hb1, hk1⟩
  obtain ⟨hB, v, hbk, hown, hne⟩ := h1
  have c0 : w1.cell? ⟨b, 0, none⟩ = some (.pointer (some ⟨b, 0, none⟩)) := by rw [Lib.cell_of_heap hbk]; rfl
  have c1 : w1.cell? ⟨b, 1, none⟩ = some v := by rw [Lib.cell_of_heap hbk]; rfl
  have hl := Lib.byteCells_length l
  go_wp2_with (at_builtin; refine Lib.wpList_append_own_stringF _ rfl _ _ 45 9 rfl B 5 i0 Tryz.underlying45 Tryz.underlying9 hi hz0 hz1 hz2 _ _ _ rfl hown s rfl ?c3 ?c4 ?c5 ?_)
  case c3 => unfold maxLen; omega
  case c4 => omega
  case c5 => have := hb1.size; omega
  intro v' w2 hown' hgrow _
  have hlt : b < w1.heap.size := by
    rcases Nat.lt_or_ge b w1.heap.size with h' | h'
    · exact h'
    · simp [Array.getElem?_eq_none h'] at hbk
  have hb2 : w2.heap[b]? = some (.cells #[.pointer (some ⟨b, 0, none⟩), v] 124 (0, 0)) := by
    rw [hgrow.block b hlt (fun e => hne e.symm)]
    exact hbk
  have d0 : w2.cell? ⟨b, 0, none⟩ = some (.pointer (some ⟨b, 0, none⟩)) := by rw [Lib.cell_of_heap hb2]; rfl
  have d1 : w2.cell? ⟨b, 1, none⟩ = some v := by rw [Lib.cell_of_heap hb2]; rfl
  have f1 : w2.frozen? ⟨b, 1, none⟩ = false := Lib.frozen_of_heap hb2 1
  obtain ⟨ao, n', cap, rfl⟩ : ∃ ao n' cap, v' = .slice ao n' cap := by
    rcases hown'.2 with ⟨hv, _⟩ | ⟨g, cap, cur, fz, hv, _⟩
    · exact ⟨_, _, _, hv⟩
    · exact ⟨_, _, _, hv⟩
  go_wp2
  go_ret2
  refine ⟨rfl, ?_, ?_, ?_⟩
  · have hp := Lib.BuilderAtF.put (T := 124) (e := 5) hB hb2 (bs' := Lib.byteCells l ++ Lib.strCells s) (by simpa [Lib.strCells_length, hl] using hown') (by decide)
    rw [Lib.strCells_eq, ← Lib.byteCells_append] at hp
    exact .inr hp
  · exact (hb1.grown hgrow (by have := hb1.size; omega) (fun k hk => (hown.lt k hk).1)).setCell (p := ⟨b, 1, none⟩) hB _
  · exact (hk1.grown hgrow (own_row5 hown)).setCell ⟨b, 1, none⟩ rfl _

set_option maxHeartbeats 2000000 in
set_option maxRecDepth 100000 in
theorem pwriteB (B b : Nat) (l : List UInt8) (c : UInt8) (w : World) (h : PageF B b l w) (hlen : l.length + 1 ≤ 1000000000) (hBw : B ≤ w.heap.size) :
    Calls Tryz.prog 151 #[.pointer (some ⟨b, 0, none⟩), .int .u8 (c.toNat : Int)] w fun e w' => e = .returned .nilIface ∧ Wrote 124 B b (l ++ [c]) w w' := by
  obtain ⟨i0, hi, hz0, hz1, hz2⟩ := info_parts Tryz.infoU8
  have hC := hid (pcheck B b (Lib.byteCells l) w h)
  go_enter Tryz.func151, Tryz.ntmps151
  go_wp2_with (go_at_call 81; refine hC.out.mono ?_)
  rintro e w1 ⟨rfl, h1, hb1, hk1⟩
  obtain ⟨hB, v, hbk, hown, hne⟩ := h1
  have c0 : w1.cell? ⟨b, 0, none⟩ = some (.pointer (some ⟨b, 0, none⟩)) := by rw [Lib.cell_of_heap hbk]; rfl
  have c1 : w1.cell? ⟨b, 1, none⟩ = some v := by rw [Lib.cell_of_heap hbk]; rfl
  have hl := Lib.byteCells_length l
  go_wp2_with (at_builtin; refine wpList_append_ownF _ rfl _ _ 45 rfl B 5 i0 (.int .u8 0) 1 1 Tryz.underlying45 hi hz0 hz1 hz2 rfl (by decide) _ _ _ rfl (hown.alloc _) ⟨w1.heap.size, 0, none⟩ 1 1 [.int .u8 (c.toNat : Int)] rfl rfl ?c1 ?c2 ?c3 ?c4 ?c5 ?_)
  case c1 =>
    intro j u hj
    match j, hj with
    | 0, hj => simp at hj; subst hj; simp [Addr.add]
  case c2 => intro u hu; simp at hu; subst hu; rfl
  case c3 => unfold maxLen; omega
  case c4 => omega
  case c5 => have := hb1.size; simp; omega
  intro v' w2 hown' hgrow _
  have hlt : b < w1.heap.size := by
    rcases Nat.lt_or_ge b w1.heap.size with h' | h'
    · exact h'
    · simp [Array.getElem?_eq_none h'] at hbk
  have hb2 : w2.heap[b]? = some (.cells #[.pointer (some ⟨b, 0, none⟩), v] 124 (0, 0)) := by
    rw [hgrow.block b (by simp; omega) (fun e => hne e.symm), Below.heap_alloc _ _ _ hlt]
    exact hbk
  have d0 : w2.cell? ⟨b, 0, none⟩ = some (.pointer (some ⟨b, 0, none⟩)) := by rw [Lib.cell_of_heap hb2]; rfl
  have d1 : w2.cell? ⟨b, 1, none⟩ = some v := by rw [Lib.cell_of_heap hb2]; rfl
  have f1 : w2.frozen? ⟨b, 1, none⟩ = false := Lib.frozen_of_heap hb2 1
  obtain ⟨g, cap, rfl⟩ : ∃ g cap, v' = .slice (some ⟨g, 0, none⟩) (l.length + 1) cap := by
    rcases hown'.2 with ⟨_, h0⟩ | ⟨g, cap, cur, fz, hv, _⟩
    · omega
    · exact ⟨g, cap, hv⟩
  go_wp2
  go_ret
  refine ⟨rfl, ?_, ?_, ?_⟩
  · have hp := Lib.BuilderAtF.put (T := 124) (e := 5) hB hb2 (bs' := Lib.byteCells l ++ [.int .u8 (c.toNat : Int)]) (by simpa [hl] using hown') (by decide)
    rw [show (Lib.byteCells l ++ [.int .u8 (c.toNat : Int)]) = Lib.byteCells (l ++ [c]) by rw [Lib.byteCells_append]; rfl] at hp
    exact .inr hp
  · exact ((hb1.alloc (by have := hb1.size; omega) _).grown hgrow (by have := hb1.size; simp; omega) (fun k hk => (hown.lt k hk).1)).setCell (p := ⟨b, 1, none⟩) hB _
  · exact ((hk1.alloc _).grown hgrow (own_row5 (hown.alloc _))).setCell ⟨b, 1, none⟩ rfl _

set_option maxHeartbeats 2000000 in
set_option maxRecDepth 100000 in
theorem pstring (B b : Nat) (l : List UInt8) (w : World) (h : PageF B b l w) (h0 : l ≠ []) :
    Calls Tryz.prog 61 #[.pointer (some ⟨b, 0, none⟩)] w fun e w' => e = .returned (.string (S.B l)) ∧ Below B w w' := by
  obtain ⟨p, hB, v, hbk, hown, hne⟩ : ∃ p, Lib.BuilderAtF 124 5 B b p (Lib.byteCells l) w := by
    rcases h with h | h
    · exact ⟨_, h⟩
    · exact ⟨_, h⟩
  have hl0 : l.length ≠ 0 := by simpa using h0
  rw [Lib.byteCells_length] at hown
  obtain ⟨g, cap, cur, fz, rfl, hbg, hg, hfz, hnc, hcm, hcs, htake⟩ : ∃ g cap cur fz, v = .slice (some ⟨g, 0, none⟩) l.length cap ∧ B ≤ g ∧ w.heap[g]? = some (.cells cur 5 fz) ∧ fz.2 ≤ l.length * 1 ∧ l.length ≤ cap ∧ cap ≤ maxLen ∧ cur.size = cap * 1 ∧ cur.toList.take (l.length * 1) = Lib.byteCells l := by
    rcases hown.2 with ⟨_, hz⟩ | ⟨g, cap, cur, fz, hv, r⟩
    · exact absurd hz hl0
    · exact ⟨g, cap, cur, fz, hv, r⟩
  have c1 : w.drew.cell? ⟨b, 1, none⟩ = some (.slice (some ⟨g, 0, none⟩) l.length cap) := by
    have : w.drew.heap[b]? = some (.cells #[p, .slice (some ⟨g, 0, none⟩) l.length cap] 124 (0, 0)) := hbk
    rw [Lib.cell_of_heap this]; rfl
  have hSD : (Builtin.unsafeSliceData_ #[45] 137 #[.slice (some ⟨g, 0, none⟩) l.length cap]).run Tryz.prog w.drew = .ok (.pointer (some ⟨g, 0, none⟩)) w.drew :=
    Lib.run_unsafeSliceData_row _ _ _ _ _ _ (by omega)
  have hUS : (Builtin.unsafeString_ #[137, 3] 9 #[.pointer (some ⟨g, 0, none⟩), .int .i64 l.length]).run Tryz.prog w.drew = .ok (.string ⟨l.toArray⟩) (w.drew.freeze ⟨g, 0, none⟩ l.length) := by
    refine Lib.run_unsafeString_row w.drew 137 3 9 5 Tryz.underlying137 Tryz.cellsU8 g cur.size (by have hg' : w.drew.heap[g]? = some (.cells cur 5 fz) := hg; simp [World.shape?, hg']) l h0 (by omega) (by unfold maxLen at hcm; omega) ?_
    intro j x hx
    exact hown.cells (g := g) rfl j (.int .u8 x.toNat) (by simp [Lib.byteCells, hx])
  go_enter Tryz.func61, Tryz.ntmps61
  go_wp2
  go_region
  all_goals (go_wp2; go_ret; exact ⟨rfl, Lib.below_freeze (Below.drew (Below.refl B w)) (p := ⟨g, 0, none⟩) hbg _⟩)
set_option maxHeartbeats 2000000 in
set_option maxRecDepth 100000 in
/-- A page into which nothing was written. -/
theorem pstring_nil (b : Nat) (w : World) (hbk : w.heap[b]? = some (.cells #[.pointer none, .slice none 0 0] 124 (0, 0))) :
    Calls Tryz.prog 61 #[.pointer (some ⟨b, 0, none⟩)] w fun e w' => e = .returned (.string ⟨#[]⟩) ∧ Below w.heap.size w w' := by
  have c1 : w.drew.cell? ⟨b, 1, none⟩ = some (.slice none 0 0) := by
    have : w.drew.heap[b]? = some (.cells #[.pointer none, .slice none 0 0] 124 (0, 0)) := hbk
    rw [Lib.cell_of_heap this]; rfl
  have hSD : (Builtin.unsafeSliceData_ #[45] 137 #[.slice none 0 0]).run Tryz.prog w.drew = .ok (.pointer none) w.drew := rfl
  have hUS := fun W : World => Lib.run_unsafeString_none (P := Tryz.prog) W 137 3 9 none
  go_enter Tryz.func61, Tryz.ntmps61
  go_wp2
  go_region
  all_goals (go_wp2; go_ret; exact ⟨rfl, Below.drew (Below.refl _ w)⟩)
/-- A page that has just been made. -/
theorem fresh_page (w : World) : PageF w.heap.size w.heap.size [] (w.alloc (.cells #[.pointer none, .slice none 0 0] 124)) := by
  refine Lib.IsBuilderF.of (.inl ⟨Nat.le_refl _, .slice none 0 0, alloc_new _ _, World.ownsRow_nil _ _ _ _, ?_⟩)
  simp [Value.ownBlock]
namespace S
/-- A byte as a page bears it. -/
def esc1 (b : UInt8) : List UInt8 := if b = 38 then [38, 97, 109, 112, 59] else if b = 60 then [38, 108, 116, 59] else if b = 62 then [38, 103, 116, 59] else if b = 34 then [38, 113, 117, 111, 116, 59] else [b]
def escH (l : List UInt8) : List UInt8 := (l.map esc1).flatten
theorem escH_nil : escH [] = [] := rfl
theorem escH_cons (b : UInt8) (l : List UInt8) : escH (b :: l) = esc1 b ++ escH l := by simp [escH]
theorem escH_append (a b : List UInt8) : escH (a ++ b) = escH a ++ escH b := by simp [escH]
theorem esc1_le (b : UInt8) : (esc1 b).length ≤ 6 := by unfold esc1; split <;> (try split) <;> (try split) <;> (try split) <;> simp
theorem escH_le (l : List UInt8) : (escH l).length ≤ 6 * l.length := by
  induction l with
  | nil => simp [escH]
  | cons b l ih => rw [escH_cons, List.length_append, List.length_cons]; have := esc1_le b; omega
theorem escH_snoc (l : List UInt8) (k : Nat) (b : UInt8) (h : l[k]? = some b) : escH (l.take (k + 1)) = escH (l.take k) ++ esc1 b := by
  rw [List.take_add_one, h, escH_append]; simp [escH]
end S
set_option maxRecDepth 100000 in
set_option maxHeartbeats 4000000 in
theorem wesc_any (B b : Nat) (l : List UInt8) (s : ByteArray) (w : World) (h : PageF B b l w) (hlen : l.length + 6 * s.size ≤ 1000000000) (hBw : B ≤ w.heap.size) :
    Calls Tryz.prog 195 #[.pointer (some ⟨b, 0, none⟩), .string s] w fun e w' => e = .returned (.tuple #[]) ∧ Wrote 124 B b (l ++ S.escH s.data.toList) w w' := by
  have hW0 := hid (Wrote.refl h)
  clear h
  go_enter Tryz.func195, Tryz.ntmps195
  go_wp2
  go_loopw [4, 5, 8] (fun _ _ i wr => ∃ k : Nat, k ≤ s.size ∧ i = .int .i64 k ∧ Hid (Wrote 124 B b (l ++ S.escH (s.data.toList.take k)) w wr)) (fun _ _ i _ => s.size - (intOf i).toNat)
  case atStart => exact ⟨0, Nat.zero_le _, rfl, by simpa [S.escH] using hW0⟩
  case round =>
    obtain ⟨k, hk, rfl, hW⟩ := hrel
    have hBr : B ≤ wr.heap.size := Nat.le_trans hBw hW.out.2.1.size
    by_cases hlt : k < s.size
    · have hg : s.data.toList[k]? = some s[k] := S.get_data s k hlt
      have hsn := hid (S.escH_snoc _ k _ hg)
      have hle := S.escH_le (s.data.toList.take k)
      rw [List.length_take, S.length_data] at hle
      have hbyte : s[k].toNat < 256 := s[k].toNat_lt
      obtain ⟨c, hc⟩ : ∃ c, s[k] = c := ⟨_, rfl⟩
      rw [hc] at hsn hbyte
      have hcI : (0 : Int) ≤ (k : Int) := by omega
      have hcI2 : (k : Int) < (s.size : Int) := by omega
      have step : ∀ (x : ByteArray), S.esc1 c = x.data.toList → x.size ≤ 6 → Hid (Calls Tryz.prog 60 #[.pointer (some ⟨b, 0, none⟩), .string x] wr fun e w' => e = .returned (.tuple #[.int .i64 x.size, .nilIface]) ∧ Hid (Wrote 124 B b (l ++ S.escH (s.data.toList.take (k + 1))) w w')) := fun x hx h6 => hid ((pwrite B b _ x wr hW.out.1 (by rw [List.length_append]; omega) hBr).mono (fun e w' ⟨h1, h2⟩ => ⟨h1, hid (by
        rw [hsn.out, hx, ← List.append_assoc]; exact hW.out.trans h2)⟩))
      clear hg
      by_cases h0 : c = 38
      · have hx := step ⟨#[38, 97, 109, 112, 59]⟩ (by rw [h0]; rfl) (by decide)
        have hcn : s[k].toNat = 38 := by rw [hc, h0]; rfl
        clear step h0 hc
        go_wp2_with fail
        refine hx.out.mono ?_
        rintro e w2 ⟨rfl, hw2⟩
        go_wp2
        go_roundw
        case rel => exact ⟨k + 1, by omega, by go_num, hw2⟩
        case measure => simp [intOf]; omega
      by_cases h1 : c = 60
      · have hx := step ⟨#[38, 108, 116, 59]⟩ (by rw [h1]; rfl) (by decide)
        have hcn : s[k].toNat = 60 := by rw [hc, h1]; rfl
        have hb0 : (((s[k].toNat : Nat) : Int) == 38) = false := by rw [beq_eq_false_iff_ne, hc]; intro e; exact h0 (UInt8.toNat_inj.1 (Int.ofNat_inj.1 e))
        clear step h0 h1 hc
        go_wp2_with fail
        refine hx.out.mono ?_
        rintro e w2 ⟨rfl, hw2⟩
        go_wp2
        go_roundw
        case rel => exact ⟨k + 1, by omega, by go_num, hw2⟩
        case measure => simp [intOf]; omega
      by_cases h2 : c = 62
      · have hx := step ⟨#[38, 103, 116, 59]⟩ (by rw [h2]; rfl) (by decide)
        have hcn : s[k].toNat = 62 := by rw [hc, h2]; rfl
        have hb0 : (((s[k].toNat : Nat) : Int) == 38) = false := by rw [beq_eq_false_iff_ne, hc]; intro e; exact h0 (UInt8.toNat_inj.1 (Int.ofNat_inj.1 e))
        have hb1 : (((s[k].toNat : Nat) : Int) == 60) = false := by rw [beq_eq_false_iff_ne, hc]; intro e; exact h1 (UInt8.toNat_inj.1 (Int.ofNat_inj.1 e))
        clear step h0 h1 h2 hc
        go_wp2_with fail
        refine hx.out.mono ?_
        rintro e w2 ⟨rfl, hw2⟩
        go_wp2
        go_roundw
        case rel => exact ⟨k + 1, by omega, by go_num, hw2⟩
        case measure => simp [intOf]; omega
      by_cases h3 : c = 34
      · have hx := step ⟨#[38, 113, 117, 111, 116, 59]⟩ (by rw [h3]; rfl) (by decide)
        have hcn : s[k].toNat = 34 := by rw [hc, h3]; rfl
        have hb0 : (((s[k].toNat : Nat) : Int) == 38) = false := by rw [beq_eq_false_iff_ne, hc]; intro e; exact h0 (UInt8.toNat_inj.1 (Int.ofNat_inj.1 e))
        have hb1 : (((s[k].toNat : Nat) : Int) == 60) = false := by rw [beq_eq_false_iff_ne, hc]; intro e; exact h1 (UInt8.toNat_inj.1 (Int.ofNat_inj.1 e))
        have hb2 : (((s[k].toNat : Nat) : Int) == 62) = false := by rw [beq_eq_false_iff_ne, hc]; intro e; exact h2 (UInt8.toNat_inj.1 (Int.ofNat_inj.1 e))
        clear step h0 h1 h2 h3 hc
        go_wp2_with fail
        refine hx.out.mono ?_
        rintro e w2 ⟨rfl, hw2⟩
        go_wp2
        go_roundw
        case rel => exact ⟨k + 1, by omega, by go_num, hw2⟩
        case measure => simp [intOf]; omega
      have hx : Hid (Calls Tryz.prog 151 #[.pointer (some ⟨b, 0, none⟩), .int .u8 (s[k].toNat : Int)] wr fun e w' => e = .returned .nilIface ∧ Hid (Wrote 124 B b (l ++ S.escH (s.data.toList.take (k + 1))) w w')) := hid (by
        rw [hc]
        exact (pwriteB B b _ c wr hW.out.1 (by rw [List.length_append]; omega) hBr).mono (fun e w' ⟨g1, g2⟩ => ⟨g1, hid (by
          rw [hsn.out, ← List.append_assoc, show S.esc1 c = [c] by unfold S.esc1; rw [if_neg h0, if_neg h1, if_neg h2, if_neg h3]]; exact hW.out.trans g2)⟩))
      have hb0 : (((s[k].toNat : Nat) : Int) == 38) = false := by rw [beq_eq_false_iff_ne, hc]; intro e; exact h0 (UInt8.toNat_inj.1 (Int.ofNat_inj.1 e))
      have hb1 : (((s[k].toNat : Nat) : Int) == 60) = false := by rw [beq_eq_false_iff_ne, hc]; intro e; exact h1 (UInt8.toNat_inj.1 (Int.ofNat_inj.1 e))
      have hb2 : (((s[k].toNat : Nat) : Int) == 62) = false := by rw [beq_eq_false_iff_ne, hc]; intro e; exact h2 (UInt8.toNat_inj.1 (Int.ofNat_inj.1 e))
      have hb3 : (((s[k].toNat : Nat) : Int) == 34) = false := by rw [beq_eq_false_iff_ne, hc]; intro e; exact h3 (UInt8.toNat_inj.1 (Int.ofNat_inj.1 e))
      clear step h0 h1 h2 h3 hc
      go_wp2_with fail
      refine hx.out.mono ?_
      rintro e w2 ⟨rfl, hw2⟩
      go_wp2
      go_roundw
      case rel => exact ⟨k + 1, by omega, by go_num, hw2⟩
      case measure => simp [intOf]; omega
    · have hfin : Hid (Wrote 124 B b (l ++ S.escH s.data.toList) w wr) := by
        have : k = s.size := by omega
        subst this
        rw [List.take_of_length_le (by rw [S.length_data]; omega)] at hW
        exact hW
      go_wp2
      go_end0
      exact ⟨rfl, hfin.out⟩
end Go.Proofs.YtlojgpkajkedeaaGreatDoor
