import Derived.Test.YtlojgpkajkedeaaGreatDoorE1
import Derived.Deep.QuietTactic
import Derived.BigQuiet
import Derived.Deep.RegionHeld3
import Derived.Deep.AppendLies
namespace Go.Proofs.YtlojgpkajkedeaaGreatDoor
open Go.RowKit

/-- The cells of a cutter at the content a, and of a part that is that text. -/
def cutA (f a : Int) (p : Option Addr) : List Value := [.string ⟨#[97]⟩, .int .i64 f, .int .i64 a, .pointer p, .pointer p, .slice none 0 0]
def partA : Array Value := #[.int .i64 8, .string ⟨#[]⟩, .string ⟨#[97]⟩, .pointer none, .pointer none, .int .i64 0, .bool false, .bool false, .pointer none, .pointer none]

set_option maxHeartbeats 2000000 in
theorem skip_A (C : Nat) (w : World) (hCl : C < w.heap.size) (hC : w.heap[C]? = some (.cells (cutA 0 1 none).toArray 168 (0, 0))) :
    Calls Tryz.prog 152 #[.pointer (some ⟨C, 0, none⟩), .int .i64 0] w fun e w' =>
      e = .returned (.tuple #[]) ∧ ∃ m, C < m ∧ m < w'.heap.size ∧ w'.heap[C]? = some (.cells (cutA 1 1 (some ⟨m, 0, none⟩)).toArray 168 (0, 0)) ∧ w'.heap[m]? = some (.cells partA 179 (0, 0)) ∧ Below C w w' := by
  have q0 : w.cell? ⟨C, 0, none⟩ = some (.string ⟨#[97]⟩) := cell_blk hC 0 _ rfl
  have q1 : w.cell? ⟨C, 1, none⟩ = some (.int .i64 0) := cell_blk hC 1 _ rfl
  have q2 : w.cell? ⟨C, 2, none⟩ = some (.int .i64 1) := cell_blk hC 2 _ rfl
  have hA := hid (fun (wx : World) (hx : wx.heap = w.heap) => append_empty C 3 (cutA 0 1 none) 168 8 0 ⟨#[]⟩ ((⟨#[97]⟩ : ByteArray).extract 0 1) none none false false wx (by rw [hx]; exact hCl) (by rw [hx]; exact hC) (.pointer none) rfl rfl)
  clear hC
  go_enter Tryz.func152, Tryz.ntmps152
  go_wp2_with fail
  go_region
  go_wp2_with fail
  go_region_held3 (fun w' => w'.cell? ⟨C, 0, none⟩ = some (.string ⟨#[97]⟩) ∧ w'.cell? ⟨C, 1, none⟩ = some (.int .i64 0) ∧ w'.cell? ⟨C, 2, none⟩ = some (.int .i64 1))
    ((refine ⟨?_, ?_, ?_⟩ <;> assumption))
    ((go_at_call 196; refine (hA.out w.drew.drew rfl).mono ?_; rintro e w1 ⟨rfl, hC1, hM1, hb1, hs1⟩; have k0 : w1.cell? ⟨C, 0, none⟩ = some (.string ⟨#[97]⟩) := cell_blk hC1 0 _ rfl; have k1 : w1.cell? ⟨C, 1, none⟩ = some (.int .i64 0) := cell_blk hC1 1 _ rfl; have k2 : w1.cell? ⟨C, 2, none⟩ = some (.int .i64 1) := cell_blk hC1 2 _ rfl))
  have f1 := free_blk hC1 1
  have f2 := free_blk hC1 2
  have hC1H := hid hC1
  have hM1H := hid hM1
  have hb1H := hid hb1
  have hs1H := hid hs1
  clear hC1 hM1 hb1 hs1
  go_wp2
  go_end0
  have hne : ¬ w.heap.size + 1 = C := by omega
  refine ⟨rfl, w.heap.size + 1, by omega, ?_, ?_, ?_, ?_⟩
  · have := hs1H.out; simp [World.setCell] at this ⊢; omega
  · exact set_blk (set_blk hC1H.out 2 _) 1 _
  · have hx : (⟨#[97]⟩ : ByteArray).extract 0 1 = ⟨#[97]⟩ := by rfl
    rw [hx] at hM1H
    exact set_other (set_other hM1H.out _ (by simpa using hne) _) _ (by simpa using hne) _
  · exact Below.setCell (Below.setCell (((Below.refl _ _).drew.drew).trans hb1H.out) (Nat.le_refl C) _) (Nat.le_refl C) _

end Go.Proofs.YtlojgpkajkedeaaGreatDoor
namespace Go.Proofs.YtlojgpkajkedeaaGreatDoor
open Go.RowKit

set_option maxRecDepth 100000 in
set_option maxHeartbeats 2000000 in
theorem cut_A (C : Nat) (w : World) (hCl : C < w.heap.size) (hC : w.heap[C]? = some (.cells (cutA 0 0 none).toArray 168 (0, 0))) :
    Calls Tryz.prog 106 #[.pointer (some ⟨C, 0, none⟩)] w fun e w' =>
      e = .returned (.tuple #[]) ∧ ∃ m, C < m ∧ m < w'.heap.size ∧ w'.heap[C]? = some (.cells (cutA 1 1 (some ⟨m, 0, none⟩)).toArray 168 (0, 0)) ∧ w'.heap[m]? = some (.cells partA 179 (0, 0)) ∧ Below C w w' := by
  have q0 : w.cell? ⟨C, 0, none⟩ = some (.string ⟨#[97]⟩) := cell_blk hC 0 _ rfl
  have q1 : w.cell? ⟨C, 1, none⟩ = some (.int .i64 0) := cell_blk hC 1 _ rfl
  have q2 : w.cell? ⟨C, 2, none⟩ = some (.int .i64 0) := cell_blk hC 2 _ rfl
  have f0 := free_blk hC 2
  have hb : (({ data := #[97] } : ByteArray)[0]'(by decide)).toNat = 97 := rfl
  have hCH := hid hC
  clear hC
  go_enter Tryz.func106, Tryz.ntmps106
  go_wp2_with fail
  have hS := hid (fun (wx : World) (hx : wx.heap = (w.setCell ⟨C, 2, none⟩ (.int .i64 1)).heap) => skip_A C wx (by rw [hx]; simp [World.setCell]; exact hCl) (by rw [hx]; exact set_blk hCH.out 2 (.int .i64 1)))
  refine wp_scope_jumps 0 (fun a' w' => a' = { tmps := #[.pointer (some ⟨C, 0, none⟩), undef, .int .i64 1, .pointer (some ⟨C, 0, none⟩), .pointer (some ⟨C, 0, none⟩), .pointer (some ⟨C, 2, none⟩), .int .i64 0, .pointer (some ⟨C, 0, none⟩), .pointer (some ⟨C, 0, none⟩), .pointer (some ⟨C, 0, none⟩), .string ⟨#[97]⟩, .int .i64 1, .bool false, undef, undef, .pointer (some ⟨C, 0, none⟩), .pointer (some ⟨C, 0, none⟩), .pointer (some ⟨C, 0, none⟩), .string ⟨#[97]⟩, .pointer (some ⟨C, 0, none⟩), .pointer (some ⟨C, 0, none⟩), .pointer (some ⟨C, 2, none⟩), .int .i64 0, .int .u8 97, .bool false, .bool false, .bool false, .bool false, undef, undef, undef, undef, undef, undef, .bool false, .bool false, .bool false, .bool false, .bool false, .bool false, undef, undef, .bool false, .bool false, .bool false, undef, undef, .bool false, .bool false, .bool false, .bool false, undef, undef, .pointer (some ⟨C, 0, none⟩), .pointer (some ⟨C, 0, none⟩), .pointer (some ⟨C, 2, none⟩), .int .i64 0, .int .i64 1, .int .i64 1, .pointer (some ⟨C, 0, none⟩), .pointer (some ⟨C, 2, none⟩), undef, undef, undef, undef, undef, undef, undef, undef, undef, undef, undef, undef, undef, undef, undef, undef, undef, undef, undef, undef, undef, undef, undef, undef, undef, undef, undef, undef], defers := [] } ∧ w' = (w.setCell ⟨C, 2, none⟩ (.int .i64 1)).drew.drew) (fun _ _ => 0) rfl ?_ ?_
  · go_wp2
    go_step3
    go_wp2
    go_region
    go_wp2
    go_region
    go_wp2
    go_step3
    go_wp2
    go_step3
    exact ⟨rfl, rfl, rfl⟩
  · rintro a' w' ⟨rfl, rfl⟩
    go_wp2
    go_region
    go_wp2_with fail
    refine (hS.out (w.setCell ⟨C, 2, none⟩ (.int .i64 1)).drew.drew.drew rfl).mono ?_
    rintro e w' ⟨rfl, hr⟩
    have hrH := hid hr
    clear hr
    go_wp2
    simp only [Exit.jump]
    refine bodyPost_ret (results_none rfl _ _ _) rfl ⟨rfl, ?_⟩
    obtain ⟨m, h1, h2, h3, h4, h5⟩ := hrH.out
    exact ⟨m, h1, h2, h3, h4, (Below.setCell (Below.refl C w) (Nat.le_refl C) _).drew.drew.drew.trans h5⟩
end Go.Proofs.YtlojgpkajkedeaaGreatDoor
namespace Go.Proofs.YtlojgpkajkedeaaGreatDoor
open Go.RowKit

set_option maxRecDepth 100000 in
set_option maxHeartbeats 2000000 in
theorem pair_A (C o m : Nat) (w : World) (h0 : w.cell? ⟨C, o, none⟩ = some (.pointer (some ⟨m, 0, none⟩))) (hM : w.heap[m]? = some (.cells partA 179 (0, 0))) :
    Calls Tryz.prog 163 #[.pointer (some ⟨C, o, none⟩)] w fun e w' => e = .returned (.tuple #[]) ∧ w = w' := by
  have q7 : w.cell? ⟨m, 7, none⟩ = some (.bool false) := cell_blk hM 7 _ rfl
  have hF := hid (first_any C o _ w h0 ⟨_, rfl⟩)
  have hB := hid (behind_any m (.pointer none) w (cell_blk hM 9 _ rfl) ⟨_, rfl⟩)
  clear hM
  go_enter Tryz.func163, Tryz.ntmps163
  go_wp2_with fail
  refine hF.out.mono ?_
  rintro e w' ⟨rfl, rfl⟩
  go_wp2
  refine wp_loop_rounds 2 ?_
  rw [rounds_succ]
  go_wp2
  refine wp_loop_rounds 1 ?_
  rw [rounds_succ]
  go_wp2_with fail
  refine hB.out.mono ?_
  rintro e w' ⟨rfl, rfl⟩
  go_wp2
  rw [rounds_succ]
  go_wp2
  go_end0
  exact ⟨rfl, rfl⟩

set_option maxRecDepth 100000 in
set_option maxHeartbeats 2000000 in
theorem join_A (C o m : Nat) (w : World) (h0 : w.cell? ⟨C, o, none⟩ = some (.pointer (some ⟨m, 0, none⟩))) (hM : w.heap[m]? = some (.cells partA 179 (0, 0))) :
    Calls Tryz.prog 164 #[.pointer (some ⟨C, o, none⟩)] w fun e w' => e = .returned (.tuple #[]) ∧ w = w' := by
  have q0 : w.cell? ⟨m, 0, none⟩ = some (.int .i64 8) := cell_blk hM 0 _ rfl
  have q2 : w.cell? ⟨m, 2, none⟩ = some (.string ⟨#[97]⟩) := cell_blk hM 2 _ rfl
  have hF := hid (first_any C o _ w h0 ⟨_, rfl⟩)
  have hB := hid (behind_any m (.pointer none) w (cell_blk hM 9 _ rfl) ⟨_, rfl⟩)
  clear hM
  go_enter Tryz.func164, Tryz.ntmps164
  go_wp2_with fail
  refine hF.out.mono ?_
  rintro e w' ⟨rfl, rfl⟩
  go_wp2
  refine wp_loop_rounds 2 ?_
  rw [rounds_succ]
  go_wp2_with fail
  refine hB.out.mono ?_
  rintro e w' ⟨rfl, rfl⟩
  go_wp2
  rw [rounds_succ]
  go_wp2
  go_end0
  exact ⟨rfl, rfl⟩

set_option maxHeartbeats 2000000 in
theorem settle_A (C o m : Nat) (w : World) (h0 : w.cell? ⟨C, o, none⟩ = some (.pointer (some ⟨m, 0, none⟩))) (hM : w.heap[m]? = some (.cells partA 179 (0, 0))) :
    Calls Tryz.prog 107 #[.pointer (some ⟨C, o, none⟩)] w fun e w' => e = .returned (.tuple #[]) ∧ w = w' := by
  have hP := hid (pair_A C o m w h0 hM)
  have hJ := hid (join_A C o m w h0 hM)
  clear hM
  go_enter Tryz.func107, Tryz.ntmps107
  go_wp2_with fail
  refine hP.out.mono ?_
  rintro e w' ⟨rfl, rfl⟩
  go_wp2_with fail
  refine hJ.out.mono ?_
  rintro e w' ⟨rfl, rfl⟩
  go_wp2
  go_end0
  exact ⟨rfl, rfl⟩

set_option maxHeartbeats 2000000 in
theorem within_A (w : World) :
    Calls Tryz.prog 80 #[.string ⟨#[97]⟩] w fun e w' =>
      ∃ m, e = .returned (.agg #[.pointer (some ⟨m, 0, none⟩), .pointer (some ⟨m, 0, none⟩)]) ∧ w.heap.size ≤ m ∧ m < w'.heap.size ∧ w'.heap[m]? = some (.cells partA 179 (0, 0)) ∧ Below w.heap.size w w' := by
  obtain ⟨w2, hw2⟩ : ∃ w2, w2 = (w.alloc (.cells #[.pointer none, .pointer none] 135)).alloc (.cells #[.string ⟨#[97]⟩, .int .i64 0, .int .i64 0, .pointer none, .pointer none, .slice none 0 0] 168) := ⟨_, rfl⟩
  have hs1 : (w.alloc (.cells #[.pointer none, .pointer none] 135)).heap.size = w.heap.size + 1 := by simp
  have hs2 : w2.heap.size = w.heap.size + 2 := by rw [hw2]; simp
  have hC : w2.heap[w.heap.size + 1]? = some (.cells (cutA 0 0 none).toArray 168 (0, 0)) := by rw [hw2, ← hs1]; exact alloc_new _ _
  have hR : w2.heap[w.heap.size]? = some (.cells #[.pointer none, .pointer none] 135 (0, 0)) := by rw [hw2, Below.heap_alloc _ _ _ (by simp)]; exact alloc_new _ _
  have hb2 : Below w.heap.size w w2 := by rw [hw2]; exact ((Below.refl _ _).alloc (Nat.le_refl _) _).alloc (by simp) _
  have hK := hid (cut_A (w.heap.size + 1) w2 (by omega) hC)
  have hRH := hid hR
  have hb2H := hid hb2
  have hw2H := hid hw2
  clear hC hR hb2 hs1 hs2 hw2
  go_enter Tryz.func80, Tryz.ntmps80
  go_wp2_with fail
  rw [← hw2H.out]
  refine hK.out.mono ?_
  rintro e w3 ⟨rfl, m, hm1, hm2, hC3, hM3, hb3⟩
  have hR3 := (hb3.block w.heap.size (by omega)).trans hRH.out
  have hSt := hid (settle_A (w.heap.size + 1) 3 m w3 (cell_blk hC3 3 _ rfl) hM3)
  have p3 : w3.cell? ⟨w.heap.size + 1, 3, none⟩ = some (.pointer (some ⟨m, 0, none⟩)) := cell_blk hC3 3 _ rfl
  have p4 : w3.cell? ⟨w.heap.size + 1, 4, none⟩ = some (.pointer (some ⟨m, 0, none⟩)) := cell_blk hC3 4 _ rfl
  have r0 : w3.cell? ⟨w.heap.size, 0, none⟩ = some (.pointer none) := cell_blk hR3 0 _ rfl
  have r1 : w3.cell? ⟨w.heap.size, 1, none⟩ = some (.pointer none) := cell_blk hR3 1 _ rfl
  have g := free_blk hR3
  have hR3H := hid hR3
  have hM3H := hid hM3
  have hb3H := hid hb3
  clear hR3 hM3 hb3 hC3
  go_wp2_with fail
  refine hSt.out.mono ?_
  rintro e w' ⟨rfl, rfl⟩
  go_wp2
  have z := set_blk (set_blk (cs := [.pointer none, .pointer none]) hR3H.out 0 (.pointer (some ⟨m, 0, none⟩))) 1 (.pointer (some ⟨m, 0, none⟩))
  have z0 := cell_blk z 0 _ rfl
  have z1 := cell_blk z 1 _ rfl
  refine bodyPost_ret (v := .agg #[.pointer (some ⟨m, 0, none⟩), .pointer (some ⟨m, 0, none⟩)]) (by simp [results, Tryz.results80, go_sem, z0, z1]) rfl ⟨m, rfl, by omega, ?_, ?_, ?_⟩
  · simpa [World.setCell] using hm2
  · have hne : ¬ m = w.heap.size := by omega
    exact set_other (set_other hM3H.out _ (by simpa using hne) _) _ (by simpa using hne) _
  · exact Below.setCell (Below.setCell (hb2H.out.trans (hb3H.out.mono (by omega))) (by simp) _) (by simp) _

end Go.Proofs.YtlojgpkajkedeaaGreatDoor
namespace Go.Proofs.YtlojgpkajkedeaaGreatDoor
open Go.RowKit

theorem Tryz.infoNode : (Tryz.prog.info? 36).map (fun i => (i.zero, i.size, i.bytes)) = some (some (.agg #[.int .i64 0, .int .i64 0, .int .i64 0, .string ⟨#[]⟩, .string ⟨#[]⟩]), 5, 56) := by kernel_rfl
/-- A node, its cells, those of a list of nodes. -/
structure Nd where
  depth : Int
  kind : Int
  n : Int
  info : ByteArray
  text : ByteArray
def Nd.val (x : Nd) : Value := .agg #[.int .i64 x.depth, .int .i64 x.kind, .int .i64 x.n, .string x.info, .string x.text]
def five (x : Nd) : List Value := [.int .i64 x.depth, .int .i64 x.kind, .int .i64 x.n, .string x.info, .string x.text]
def ndCells (l : List Nd) : List Value := (l.map five).flatten
theorem ndCells_snoc (l : List Nd) (x : Nd) : ndCells (l ++ [x]) = ndCells l ++ five x := by simp [ndCells]
/-- The nodes that a call has laid so far: a list of its own. -/
def OwnsN (B : Nat) (a : Option Addr) (cp : Nat) (l : List Nd) (w : World) : Prop := w.ownsRow B 36 5 (.slice a l.length cp) l.length (ndCells l)
theorem OwnsN.alloc {B : Nat} {a : Option Addr} {cp : Nat} {l : List Nd} {w : World} (h : OwnsN B a cp l w) (o : Obj) : OwnsN B a cp l (w.alloc o) := World.ownsRow.alloc h o
theorem below_grown {w w' : World} (hb : Below w.heap.size w w') : w.grownBy w' none := ⟨hb.os, hb.tape, hb.output, hb.size, fun k hk _ => hb.block k hk⟩
theorem OwnsN.below {B : Nat} {a : Option Addr} {cp : Nat} {l : List Nd} {w w' : World} (h : OwnsN B a cp l w) (hb : Below w.heap.size w w') : OwnsN B a cp l w' :=
  World.ownsRow.kept h (below_grown hb) (by
    cases h : (Value.slice a l.length cp).ownBlock with
    | none => exact .inl rfl
    | some g => exact .inr (by simp))
theorem OwnsN.nil (B : Nat) (w : World) : OwnsN B none 0 [] w := World.ownsRow_nil _ _ _ _

set_option maxHeartbeats 2000000 in
theorem appendParts_nil (a : Option Addr) (n cp : Nat) (depth : Int) (w : World) :
    Calls Tryz.prog 83 #[.slice a n cp, .agg #[.pointer none, .pointer none], .int .i64 depth] w fun e w' => e = .returned (.slice a n cp) ∧ w.alloc (.cells #[.pointer none, .pointer none] 135) = w' := by
  have hF := hid (first_any w.heap.size 0 (.pointer none) (w.alloc (.cells #[.pointer none, .pointer none] 135)) (cell_blk (alloc_new _ _) 0 _ rfl) ⟨_, rfl⟩)
  go_enter Tryz.func83, Tryz.ntmps83
  go_wp2_with fail
  refine hF.out.mono ?_
  rintro e w' ⟨rfl, rfl⟩
  go_wp2
  refine wp_loop_rounds 1 ?_
  rw [rounds_succ]
  go_wp2
  go_ret
  exact ⟨rfl, rfl⟩

/-- A list's way behind a call that lays nodes behind it: of what was there the list's own block alone may have changed. -/
def Laid (B : Nat) (own : Option Nat) (l : List Nd) (w : World) (e : Ending) (w' : World) : Prop := ∃ a cp, e = .returned (.slice a l.length cp) ∧ OwnsN B a cp l w' ∧ w.grownBy w' own ∧ ∀ g, (Value.slice a l.length cp).ownBlock = some g → own = some g ∨ w.heap.size ≤ g
theorem grown_trans {w w1 w2 : World} {own own1 : Option Nat} (h1 : w.grownBy w1 own) (h2 : w1.grownBy w2 own1) (h : ∀ g, own1 = some g → own = some g ∨ w.heap.size ≤ g) : w.grownBy w2 own :=
  ⟨h2.os.trans h1.os, h2.tape.trans h1.tape, h2.output.trans h1.output, Nat.le_trans h1.size h2.size, fun k hk hne => by
    rw [h2.block k (Nat.lt_of_lt_of_le hk h1.size) (fun e => by rcases h k e.symm with h3 | h3; exact hne h3.symm; omega), h1.block k hk hne]⟩
theorem grown_below {w w' : World} (hb : Below w.heap.size w w') (own : Option Nat) : w.grownBy w' own := ⟨hb.os, hb.tape, hb.output, hb.size, fun k hk _ => hb.block k hk⟩
theorem Laid.below {B : Nat} {own : Option Nat} {l : List Nd} {w w' : World} {e : Ending} (h : Laid B own l w e w') (hB : B ≤ w.heap.size) (ho : ∀ g, own = some g → B ≤ g) : Below B w w' := by
  obtain ⟨_, _, _, _, h3, _⟩ := h
  exact Below.grown (Below.refl B w) h3 hB ho

def ndA (depth : Int) : Nd := ⟨depth, 8, 0, ⟨#[]⟩, ⟨#[97]⟩⟩

set_option maxRecDepth 100000 in
set_option maxHeartbeats 4000000 in
theorem appendParts_A (B m : Nat) (a : Option Addr) (cp : Nat) (l : List Nd) (depth : Nat) (w : World) (hB : B ≤ w.heap.size) (hown : OwnsN B a cp l w) (hl : l.length ≤ 1000000) (hd : depth ≤ 1000000) (hml : m < w.heap.size) (hM : w.heap[m]? = some (.cells partA 179 (0, 0))) (hne : some m ≠ (Value.slice a l.length cp).ownBlock) :
    Calls Tryz.prog 83 #[.slice a l.length cp, .agg #[.pointer (some ⟨m, 0, none⟩), .pointer (some ⟨m, 0, none⟩)], .int .i64 (depth : Nat)] w (Laid B (Value.slice a l.length cp).ownBlock (l ++ [ndA depth]) w) := by
  obtain ⟨i0, hi, hz0, hz1, hz2⟩ := info_parts Tryz.infoNode
  have hbA : Below w.heap.size w (w.alloc (.cells #[.pointer (some ⟨m, 0, none⟩), .pointer (some ⟨m, 0, none⟩)] 135)) := (Below.refl _ _).alloc (Nat.le_refl _) _
  have hF := hid (first_any w.heap.size 0 (.pointer (some ⟨m, 0, none⟩)) (w.alloc (.cells #[.pointer (some ⟨m, 0, none⟩), .pointer (some ⟨m, 0, none⟩)] 135)) (cell_blk (alloc_new _ _) 0 _ rfl) ⟨_, rfl⟩)
  have hMA := (hbA.block m hml).trans hM
  have hownA := OwnsN.below hown hbA
  have hsA : (w.alloc (.cells #[.pointer (some ⟨m, 0, none⟩), .pointer (some ⟨m, 0, none⟩)] 135)).heap.size = w.heap.size + 1 := by simp
  generalize hWA : w.alloc (.cells #[.pointer (some ⟨m, 0, none⟩), .pointer (some ⟨m, 0, none⟩)] 135) = WA at *
  have hWAH := hid hWA
  have hownH := hid (fun o1 o2 => OwnsN.alloc (OwnsN.alloc hownA o1) o2)
  have hownA2 := hid hownA
  have hbAH := hid hbA
  have hsAH := hid hsA
  have hMAH := hid hMA
  have p0 : WA.cell? ⟨m, 0, none⟩ = some (.int .i64 8) := cell_blk hMA 0 _ rfl
  have p1 : WA.cell? ⟨m, 1, none⟩ = some (.string ⟨#[]⟩) := cell_blk hMA 1 _ rfl
  have p2 : WA.cell? ⟨m, 2, none⟩ = some (.string ⟨#[97]⟩) := cell_blk hMA 2 _ rfl
  have p3 : WA.cell? ⟨m, 3, none⟩ = some (.pointer none) := cell_blk hMA 3 _ rfl
  have p4 : WA.cell? ⟨m, 4, none⟩ = some (.pointer none) := cell_blk hMA 4 _ rfl
  have p5 : WA.cell? ⟨m, 5, none⟩ = some (.int .i64 0) := cell_blk hMA 5 _ rfl
  have p6 : WA.cell? ⟨m, 6, none⟩ = some (.bool false) := cell_blk hMA 6 _ rfl
  have p7 : WA.cell? ⟨m, 7, none⟩ = some (.bool false) := cell_blk hMA 7 _ rfl
  clear hWA hownA hbA hsA hMA hM hown
  have hnew : Hid (∀ X j u, (five (ndA (depth : Int)))[j]? = some u → ((WA.alloc X).alloc (.cells #[.int .i64 (depth : Int), .int .i64 8, .int .i64 0, .string ⟨#[]⟩, .string ⟨#[97]⟩] 36)).cell? ((⟨WA.heap.size + 1, 0, none⟩ : Addr).add j) = some u) := hid (by
    intro X j u hj
    have hsz : (WA.alloc X).heap.size = WA.heap.size + 1 := by simp
    have ha : (⟨WA.heap.size + 1, 0, none⟩ : Addr).add j = ⟨(WA.alloc X).heap.size, j, none⟩ := by
      rw [hsz]; simp only [Addr.add]; split
      · rename_i h; simp <;> omega
      · simp <;> omega
    rw [ha]
    exact cell_blk (alloc_new _ _) j u (by rw [← hj]; simp [five, ndA]))
  have hone : Hid (∀ u ∈ five (ndA (depth : Int)), u.oneCell' = true) := hid (by
    intro u hu; simp [five] at hu; rcases hu with rfl | rfl | rfl | rfl | rfl <;> rfl)
  go_enter Tryz.func83, Tryz.ntmps83
  go_wp2_with fail
  rw [hWAH.out]
  refine hF.out.mono ?_
  rintro e w' ⟨rfl, rfl⟩
  go_wp2
  refine wp_loop_rounds 2 ?_
  rw [rounds_succ]
  go_wp2_with (at_builtin; refine wpList_append_lies _ (by rfl) _ _ 22 (by rfl) B 36 i0 (.agg #[.int .i64 0, .int .i64 0, .int .i64 0, .string ⟨#[]⟩, .string ⟨#[]⟩]) 5 56 Tryz.underlying22 hi hz0 hz1 hz2 (by rfl) (by omega) (.slice a l.length cp) l.length (ndCells l) (by rfl) (hownH.out _ _) ⟨WA.heap.size + 1, 0, none⟩ 1 1 (five (ndA (depth : Int))) (by rfl) (by rfl) (hnew.out _) hone.out (by omega) (by unfold maxLen; omega) (by have := hsAH.out; omega) (by have := hsAH.out; simp; omega) (WA.heap.size + 1 + 1) (by simp) ?_)
  intro g cap1 w3 hown3 hgrow hat hltg
  have hlt := (hownA2.out).lt
  have hs3 := hgrow.size
  have hsz2 : ∀ o1 o2, ((WA.alloc o1).alloc o2).heap.size = WA.heap.size + 2 := by intro o1 o2; simp
  rw [hsz2] at hs3
  have hX : w3.heap[WA.heap.size]? = some (.cells #[.int .i64 8, .string ⟨#[]⟩, .string ⟨#[97]⟩, .pointer none, .pointer none, .int .i64 0, .bool false, .bool false] 177 (0, 0)) := by
    rw [hgrow.block WA.heap.size (by rw [hsz2]; omega) (fun e => by have := hlt _ e.symm; omega), Below.heap_alloc _ _ _ (by simp)]
    exact alloc_new _ _
  have hM3 : w3.heap[m]? = some (.cells partA 179 (0, 0)) := by
    rw [hgrow.block m (by rw [hsz2]; have := hsAH.out; omega) hne, Below.heap_alloc _ _ _ (by simp; have := hsAH.out; omega), Below.heap_alloc _ _ _ (by have := hsAH.out; omega)]
    exact hMAH.out
  have x3 : w3.cell? ⟨WA.heap.size, 3, none⟩ = some (.pointer none) := cell_blk hX 3 _ rfl
  have x4 : w3.cell? ⟨WA.heap.size, 4, none⟩ = some (.pointer none) := cell_blk hX 4 _ rfl
  have hN := hid (appendParts_nil (some ⟨g, 0, none⟩) (l.length + 1) cap1 ((depth : Int) + 1) w3)
  have hBh := hid (behind_any m (.pointer none) (w3.alloc (.cells #[.pointer none, .pointer none] 135)) (by
    rw [((Below.refl w3.heap.size w3).alloc (Nat.le_refl _) _).cell (p := ⟨m, 9, none⟩) (by show m < _; have := hsAH.out; omega)]; exact cell_blk hM3 9 _ rfl) ⟨_, rfl⟩)
  have hgfin : Hid (w.grownBy (w3.alloc (.cells #[.pointer none, .pointer none] 135)) (Value.slice a l.length cp).ownBlock) := hid (by
    have g1 : w.grownBy WA (Value.slice a l.length cp).ownBlock := grown_below hbAH.out _
    exact grown_trans (grown_trans (grown_trans (grown_trans g1 (World.grownBy_alloc _ _ _) (fun g h => .inl h)) (World.grownBy_alloc _ _ _) (fun g h => .inl h)) hgrow (fun g h => .inl h)) (World.grownBy_alloc _ _ _) (fun g h => .inl h))
  have hatfin : Hid (∀ g', (Value.slice (some ⟨g, 0, none⟩) (l ++ [ndA depth]).length cap1).ownBlock = some g' → (Value.slice a l.length cp).ownBlock = some g' ∨ w.heap.size ≤ g') := hid (by
    intro g' hg'
    have : g = g' := by simpa [Value.ownBlock] using hg'
    subst this
    rcases hat with h | h
    · exact .inl h
    · exact .inr (by have := hsAH.out; omega))
  have hofin : Hid (OwnsN B (some ⟨g, 0, none⟩) cap1 (l ++ [ndA depth]) (w3.alloc (.cells #[.pointer none, .pointer none] 135))) := hid (by
    unfold OwnsN; rw [ndCells_snoc, List.length_append]; exact World.ownsRow.alloc hown3 _)
  clear hown3 hgrow hat hltg hX hM3 hlt hs3 hsz2
  go_wp2_with (go_at_call 83; refine hN.out.mono ?_; rintro e w' ⟨rfl, rfl⟩)
  refine hBh.out.mono ?_
  rintro e w' ⟨rfl, rfl⟩
  go_wp2
  rw [rounds_succ]
  go_wp2
  go_ret
  refine ⟨some ⟨g, 0, none⟩, cap1, ?_, hofin.out, hgfin.out, hatfin.out⟩
  rw [List.length_append]; rfl

end Go.Proofs.YtlojgpkajkedeaaGreatDoor
namespace Go.Proofs.YtlojgpkajkedeaaGreatDoor
open Go.RowKit

def spacingOf (loose : Bool) : ByteArray := if loose then ⟨#[108, 111, 111, 115, 101]⟩ else ⟨#[116, 105, 103, 104, 116]⟩

set_option maxHeartbeats 2000000 in
theorem spacing_any (k li : Int) (la : Option Addr) (lz lc : Nat) (n : Int) (info text : ByteArray) (loose : Bool) (ka : Option Addr) (kn kc : Nat) (w : World) :
    Calls Tryz.prog 82 #[.agg #[.int .i64 k, .int .i64 li, .slice la lz lc, .int .i64 n, .string info, .string text, .bool loose, .slice ka kn kc]] w fun e w' => e = .returned (.string (spacingOf loose)) ∧ w.alloc (.cells #[.int .i64 k, .int .i64 li, .slice la lz lc, .int .i64 n, .string info, .string text, .bool loose, .slice ka kn kc] 110) = w' := by
  cases loose
  · go_enter Tryz.func82, Tryz.ntmps82
    go_wp2
    go_ret
    exact ⟨rfl, rfl⟩
  · go_enter Tryz.func82, Tryz.ntmps82
    go_wp2
    go_ret
    exact ⟨rfl, rfl⟩

def textOf (k : Int) (text : ByteArray) (loose : Bool) : ByteArray := if k = 3 then text else if k = 6 then spacingOf loose else ⟨#[]⟩

theorem five_blk {w : World} {N T : Nat} {u0 u1 u2 u3 u4 : Value} (h : w.heap[N]? = some (.cells [u0, u1, u2, u3, u4].toArray T (0, 0))) (v0 v1 v2 v3 v4 : Value) :
    (((((w.setCell ⟨N, 0, none⟩ v0).setCell ⟨N, 1, none⟩ v1).setCell ⟨N, 2, none⟩ v2).setCell ⟨N, 3, none⟩ v3).setCell ⟨N, 4, none⟩ v4).heap[N]? = some (.cells #[v0, v1, v2, v3, v4] T (0, 0)) :=
  set_blk (set_blk (set_blk (set_blk (set_blk h 0 v0) 1 v1) 2 v2) 3 v3) 4 v4

set_option maxHeartbeats 4000000 in
theorem nodeOf_any (k li : Int) (la : Option Addr) (lz lc : Nat) (n : Int) (info text : ByteArray) (loose : Bool) (ka : Option Addr) (kn kc : Nat) (depth : Int) (w : World) :
    Calls Tryz.prog 62 #[.agg #[.int .i64 k, .int .i64 li, .slice la lz lc, .int .i64 n, .string info, .string text, .bool loose, .slice ka kn kc], .int .i64 depth] w fun e w' => e = .returned (.agg #[.int .i64 depth, .int .i64 k, .int .i64 n, .string info, .string (textOf k text loose)]) ∧ Below w.heap.size w w' := by
  have hs1 : ∀ o, (w.alloc o).heap.size = w.heap.size + 1 := by intro o; simp
  have hs2 : ∀ o o2, ((w.alloc o).alloc o2).heap.size = w.heap.size + 2 := by intro o o2; simp
  have hR : ∀ o o2 o3, (((w.alloc o).alloc o2).alloc o3).heap[w.heap.size + 1]? = some o2 := by
    intro o o2 o3; rw [Below.heap_alloc _ _ _ (by simp), ← hs1 o]; exact alloc_new _ _
  have hb3 : ∀ o o2 o3, Below w.heap.size w (((w.alloc o).alloc o2).alloc o3) := fun o o2 o3 => (((Below.refl _ _).alloc (Nat.le_refl _) _).alloc (by simp) _).alloc (by simp; omega) _
  have hRH := hid hR
  have hb3H := hid hb3
  clear hR hb3 hs1 hs2
  by_cases h3 : k = 3
  · subst h3
    go_enter Tryz.func62, Tryz.ntmps62
    go_wp2
    exact bodyPost_ret (v := .agg #[.int .i64 depth, .int .i64 3, .int .i64 n, .string info, .string text]) (by simp [results, Tryz.results62, go_sem]) rfl ⟨rfl, hb3H.out _ _ _⟩
  · by_cases h6 : k = 6
    · subst h6
      go_enter Tryz.func62, Tryz.ntmps62
      go_wp2_with (go_at_call 82; refine (spacing_any _ _ _ _ _ _ _ _ _ _ _ _ _).mono ?_; rintro e w' ⟨rfl, rfl⟩)
      refine bodyPost_ret (v := .agg #[.int .i64 depth, .int .i64 6, .int .i64 n, .string info, .string (spacingOf loose)]) (by simp [results, Tryz.results62, go_sem]) rfl ⟨rfl, ?_⟩
      exact (hb3H.out _ _ _).alloc (by simp; omega) _
    · have h3' : (k == 3) = false := by rw [beq_eq_false_iff_ne]; exact h3
      have h6' : (k == 6) = false := by rw [beq_eq_false_iff_ne]; exact h6
      have ht : Hid (textOf k text loose = ⟨#[]⟩) := hid (by unfold textOf; rw [if_neg h3, if_neg h6])
      rw [ht.out]
      clear h3 h6
      go_enter Tryz.func62, Tryz.ntmps62
      go_wp2
      exact bodyPost_ret (v := .agg #[.int .i64 depth, .int .i64 k, .int .i64 n, .string info, .string ⟨#[]⟩]) (by simp [results, Tryz.results62, go_sem]) rfl ⟨rfl, hb3H.out _ _ _⟩

set_option maxHeartbeats 4000000 in
theorem appendContent_none (k li : Int) (la : Option Addr) (lz lc : Nat) (n : Int) (info text : ByteArray) (loose : Bool) (ka : Option Addr) (kn kc : Nat) (depth : Int) (a : Option Addr) (ln cp : Nat) (w : World) (h1 : ¬ k = 1) (h2 : ¬ k = 2) :
    Calls Tryz.prog 63 #[.slice a ln cp, .agg #[.int .i64 k, .int .i64 li, .slice la lz lc, .int .i64 n, .string info, .string text, .bool loose, .slice ka kn kc], .int .i64 depth] w fun e w' => e = .returned (.slice a ln cp) ∧ Below w.heap.size w w' := by
  have h1' : (k == 1) = false := by rw [beq_eq_false_iff_ne]; exact h1
  have h2' : (k == 2) = false := by rw [beq_eq_false_iff_ne]; exact h2
  have h1n : (k != 1) = true := by simp [bne, h1']
  have h2n : (k != 2) = true := by simp [bne, h2']
  clear h1 h2
  go_enter Tryz.func63, Tryz.ntmps63
  go_wp2
  go_ret
  exact ⟨rfl, (Below.refl _ _).alloc (Nat.le_refl _) _⟩

set_option maxHeartbeats 4000000 in
theorem appendContent_A (B : Nat) (k li : Int) (la : Option Addr) (lz lc : Nat) (n : Int) (info : ByteArray) (loose : Bool) (ka : Option Addr) (kn kc : Nat) (depth : Nat) (a : Option Addr) (cp : Nat) (l : List Nd) (w : World) (hk : k = 1 ∨ k = 2) (hB : B ≤ w.heap.size) (hown : OwnsN B a cp l w) (hl : l.length ≤ 1000000) (hd : depth ≤ 1000000) :
    Calls Tryz.prog 63 #[.slice a l.length cp, .agg #[.int .i64 k, .int .i64 li, .slice la lz lc, .int .i64 n, .string info, .string ⟨#[97]⟩, .bool loose, .slice ka kn kc], .int .i64 (depth : Nat)] w (Laid B (Value.slice a l.length cp).ownBlock (l ++ [ndA depth]) w) := by
  have hbx : ∀ o, Below w.heap.size w (w.alloc o) := fun o => (Below.refl _ _).alloc (Nat.le_refl _) _
  have hW := hid (fun o => within_A (w.alloc o))
  have hP : Hid (∀ o m w3, w.heap.size + 1 ≤ m → m < w3.heap.size → w3.heap[m]? = some (.cells partA 179 (0, 0)) → Below (w.heap.size + 1) (w.alloc o) w3 → Calls Tryz.prog 83 #[.slice a l.length cp, .agg #[.pointer (some ⟨m, 0, none⟩), .pointer (some ⟨m, 0, none⟩)], .int .i64 (depth : Nat)] w3 (Laid B (Value.slice a l.length cp).ownBlock (l ++ [ndA depth]) w)) := hid (by
    intro o m w3 h1 h2 h3 h4
    have hs : (w.alloc o).heap.size = w.heap.size + 1 := by simp
    have hb : Below w.heap.size w w3 := (hbx o).trans (h4.mono (by omega))
    have hlt := hown.lt
    refine (appendParts_A B m a cp l depth w3 (by have := h4.size; omega) (hown.below hb) hl hd h2 h3 (fun e => by have := hlt m e.symm; omega)).mono ?_
    rintro e w' ⟨a', cp', h5, h6, h7, h8⟩
    exact ⟨a', cp', h5, h6, grown_trans (grown_below hb _) h7 (fun g h => .inl h), fun g hg => (h8 g hg).imp id (fun h => Nat.le_trans hb.size h)⟩)
  clear hbx hown
  rcases hk with rfl | rfl
  · go_enter Tryz.func63, Tryz.ntmps63
    go_wp2_with fail
    refine (hW.out _).mono ?_
    rintro e w3 ⟨m, rfl, hm1, hm2, hM, hb3⟩
    have hPP := hid (hP.out _ m w3 (by simpa using hm1) hm2 hM (by simpa using hb3))
    clear hm1 hm2 hM hb3
    go_wp2_with fail
    refine hPP.out.mono ?_
    rintro e w' ⟨a', cp', rfl, h6, h7, h8⟩
    have h6H := hid h6
    have h7H := hid h7
    have h8H := hid h8
    clear h6 h7 h8
    go_wp2
    go_ret
    exact ⟨a', cp', by rw [List.length_append]; rfl, h6H.out, h7H.out, h8H.out⟩
  · go_enter Tryz.func63, Tryz.ntmps63
    go_wp2_with fail
    refine (hW.out _).mono ?_
    rintro e w3 ⟨m, rfl, hm1, hm2, hM, hb3⟩
    have hPP := hid (hP.out _ m w3 (by simpa using hm1) hm2 hM (by simpa using hb3))
    clear hm1 hm2 hM hb3
    go_wp2_with fail
    refine hPP.out.mono ?_
    rintro e w' ⟨a', cp', rfl, h6, h7, h8⟩
    have h6H := hid h6
    have h7H := hid h7
    have h8H := hid h8
    clear h6 h7 h8
    go_wp2
    go_ret
    exact ⟨a', cp', by rw [List.length_append]; rfl, h6H.out, h7H.out, h8H.out⟩

end Go.Proofs.YtlojgpkajkedeaaGreatDoor
