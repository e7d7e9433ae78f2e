import Derived.Test.YtpoaadfkalnjgaaGreatDoorC4
import Derived.Deep.AppendLies
namespace Go.Proofs.YtpoaadfkalnjgaaGreatDoor
open Go.RowKit

theorem Tryz.infoNode : (Tryz.prog.info? 36).map (fun i => (i.zero, i.size, i.bytes)) = some (some (.agg #[.int .i64 0, .int .i64 0, .int .i64 0, .string ⟨#[]⟩, .string ⟨#[]⟩]), 5, 56) := by kernel_rfl
/-- A node, its cells, those of a list of nodes. -/
structure Nd where
  depth : Int
  kind : Int
  n : Int
  info : ByteArray
  text : ByteArray
def Nd.val (x : Nd) : Value := .agg #[.int .i64 x.depth, .int .i64 x.kind, .int .i64 x.n, .string x.info, .string x.text]
def five (x : Nd) : List Value := [.int .i64 x.depth, .int .i64 x.kind, .int .i64 x.n, .string x.info, .string x.text]
def ndCells (l : List Nd) : List Value := (l.map five).flatten
theorem ndCells_snoc (l : List Nd) (x : Nd) : ndCells (l ++ [x]) = ndCells l ++ five x := by simp [ndCells]
/-- The nodes that a call has laid so far: a list of its own. -/
def OwnsN (B : Nat) (a : Option Addr) (cp : Nat) (l : List Nd) (w : World) : Prop := w.ownsRow B 36 5 (.slice a l.length cp) l.length (ndCells l)
theorem OwnsN.alloc {B : Nat} {a : Option Addr} {cp : Nat} {l : List Nd} {w : World} (h : OwnsN B a cp l w) (o : Obj) : OwnsN B a cp l (w.alloc o) := World.ownsRow.alloc h o
theorem below_grown {w w' : World} (hb : Below w.heap.size w w') : w.grownBy w' none := ⟨hb.os, hb.tape, hb.output, hb.size, fun k hk _ => hb.block k hk⟩
theorem OwnsN.below {B : Nat} {a : Option Addr} {cp : Nat} {l : List Nd} {w w' : World} (h : OwnsN B a cp l w) (hb : Below w.heap.size w w') : OwnsN B a cp l w' :=
  World.ownsRow.kept h (below_grown hb) (by
    cases h : (Value.slice a l.length cp).ownBlock with
    | none => exact .inl rfl
    | some g => exact .inr (by simp))
theorem OwnsN.nil (B : Nat) (w : World) : OwnsN B none 0 [] w := World.ownsRow_nil _ _ _ _

set_option maxHeartbeats 2000000 in
theorem appendParts_nil (a : Option Addr) (n cp : Nat) (depth : Int) (w : World) :
    Calls Tryz.prog 40 #[.slice a n cp, .agg #[.pointer none, .pointer none], .int .i64 depth] w fun e w' => e = .returned (.slice a n cp) ∧ w.alloc (.cells #[.pointer none, .pointer none] 75) = w' := by
  have hF := hid (first_any w.heap.size 0 (.pointer none) (w.alloc (.cells #[.pointer none, .pointer none] 75)) (cell_blk (alloc_new _ _) 0 _ rfl) ⟨_, rfl⟩)
  go_enter Tryz.func40, Tryz.ntmps40
  go_wp2_with fail
  refine hF.out.mono ?_
  rintro e w' ⟨rfl, rfl⟩
  go_wp2
  refine wp_loop_rounds 1 ?_
  rw [rounds_succ]
  go_wp2
  go_ret
  exact ⟨rfl, rfl⟩

/-- A list's way behind a call that lays nodes behind it: of what was there the list's own block alone may have changed. -/
def Laid (B : Nat) (own : Option Nat) (l : List Nd) (w : World) (e : Ending) (w' : World) : Prop := ∃ a cp, e = .returned (.slice a l.length cp) ∧ OwnsN B a cp l w' ∧ w.grownBy w' own ∧ ∀ g, (Value.slice a l.length cp).ownBlock = some g → own = some g ∨ w.heap.size ≤ g
theorem grown_trans {w w1 w2 : World} {own own1 : Option Nat} (h1 : w.grownBy w1 own) (h2 : w1.grownBy w2 own1) (h : ∀ g, own1 = some g → own = some g ∨ w.heap.size ≤ g) : w.grownBy w2 own :=
  ⟨h2.os.trans h1.os, h2.tape.trans h1.tape, h2.output.trans h1.output, Nat.le_trans h1.size h2.size, fun k hk hne => by
    rw [h2.block k (Nat.lt_of_lt_of_le hk h1.size) (fun e => by rcases h k e.symm with h3 | h3; exact hne h3.symm; omega), h1.block k hk hne]⟩
theorem grown_below {w w' : World} (hb : Below w.heap.size w w') (own : Option Nat) : w.grownBy w' own := ⟨hb.os, hb.tape, hb.output, hb.size, fun k hk _ => hb.block k hk⟩
theorem Laid.below {B : Nat} {own : Option Nat} {l : List Nd} {w w' : World} {e : Ending} (h : Laid B own l w e w') (hB : B ≤ w.heap.size) (ho : ∀ g, own = some g → B ≤ g) : Below B w w' := by
  obtain ⟨_, _, _, _, h3, _⟩ := h
  exact Below.grown (Below.refl B w) h3 hB ho

def ndA (depth : Int) : Nd := ⟨depth, 8, 0, ⟨#[]⟩, ⟨#[97]⟩⟩

set_option maxRecDepth 100000 in
set_option maxHeartbeats 4000000 in
theorem appendParts_A (B m : Nat) (a : Option Addr) (cp : Nat) (l : List Nd) (depth : Nat) (w : World) (hB : B ≤ w.heap.size) (hown : OwnsN B a cp l w) (hl : l.length ≤ 1000000) (hd : depth ≤ 1000000) (hml : m < w.heap.size) (hM : w.heap[m]? = some (.cells partA 100 (0, 0))) (hne : some m ≠ (Value.slice a l.length cp).ownBlock) :
    Calls Tryz.prog 40 #[.slice a l.length cp, .agg #[.pointer (some ⟨m, 0, none⟩), .pointer (some ⟨m, 0, none⟩)], .int .i64 (depth : Nat)] w (Laid B (Value.slice a l.length cp).ownBlock (l ++ [ndA depth]) w) := by
  obtain ⟨i0, hi, hz0, hz1, hz2⟩ := info_parts Tryz.infoNode
  have hbA : Below w.heap.size w (w.alloc (.cells #[.pointer (some ⟨m, 0, none⟩), .pointer (some ⟨m, 0, none⟩)] 75)) := (Below.refl _ _).alloc (Nat.le_refl _) _
  have hF := hid (first_any w.heap.size 0 (.pointer (some ⟨m, 0, none⟩)) (w.alloc (.cells #[.pointer (some ⟨m, 0, none⟩), .pointer (some ⟨m, 0, none⟩)] 75)) (cell_blk (alloc_new _ _) 0 _ rfl) ⟨_, rfl⟩)
  have hMA := (hbA.block m hml).trans hM
  have hownA := OwnsN.below hown hbA
  have hsA : (w.alloc (.cells #[.pointer (some ⟨m, 0, none⟩), .pointer (some ⟨m, 0, none⟩)] 75)).heap.size = w.heap.size + 1 := by simp
  generalize hWA : w.alloc (.cells #[.pointer (some ⟨m, 0, none⟩), .pointer (some ⟨m, 0, none⟩)] 75) = WA at *
  have hWAH := hid hWA
  have hownH := hid (fun o1 o2 => OwnsN.alloc (OwnsN.alloc hownA o1) o2)
  have hownA2 := hid hownA
  have hbAH := hid hbA
  have hsAH := hid hsA
  have hMAH := hid hMA
  have p0 : WA.cell? ⟨m, 0, none⟩ = some (.int .i64 8) := cell_blk hMA 0 _ rfl
  have p1 : WA.cell? ⟨m, 1, none⟩ = some (.string ⟨#[]⟩) := cell_blk hMA 1 _ rfl
  have p2 : WA.cell? ⟨m, 2, none⟩ = some (.string ⟨#[97]⟩) := cell_blk hMA 2 _ rfl
  have p3 : WA.cell? ⟨m, 3, none⟩ = some (.pointer none) := cell_blk hMA 3 _ rfl
  have p4 : WA.cell? ⟨m, 4, none⟩ = some (.pointer none) := cell_blk hMA 4 _ rfl
  have p5 : WA.cell? ⟨m, 5, none⟩ = some (.int .i64 0) := cell_blk hMA 5 _ rfl
  have p6 : WA.cell? ⟨m, 6, none⟩ = some (.bool false) := cell_blk hMA 6 _ rfl
  have p7 : WA.cell? ⟨m, 7, none⟩ = some (.bool false) := cell_blk hMA 7 _ rfl
  clear hWA hownA hbA hsA hMA hM hown
  have hnew : Hid (∀ X j u, (five (ndA (depth : Int)))[j]? = some u → ((WA.alloc X).alloc (.cells #[.int .i64 (depth : Int), .int .i64 8, .int .i64 0, .string ⟨#[]⟩, .string ⟨#[97]⟩] 36)).cell? ((⟨WA.heap.size + 1, 0, none⟩ : Addr).add j) = some u) := hid (by
    intro X j u hj
    have hsz : (WA.alloc X).heap.size = WA.heap.size + 1 := by simp
    have ha : (⟨WA.heap.size + 1, 0, none⟩ : Addr).add j = ⟨(WA.alloc X).heap.size, j, none⟩ := by
      rw [hsz]; simp only [Addr.add]; split
      · rename_i h; simp <;> omega
      · simp <;> omega
    rw [ha]
    exact cell_blk (alloc_new _ _) j u (by rw [← hj]; simp [five, ndA]))
  have hone : Hid (∀ u ∈ five (ndA (depth : Int)), u.oneCell' = true) := hid (by
    intro u hu; simp [five] at hu; rcases hu with rfl | rfl | rfl | rfl | rfl <;> rfl)
  go_enter Tryz.func40, Tryz.ntmps40
  go_wp2_with fail
  rw [hWAH.out]
  refine hF.out.mono ?_
  rintro e w' ⟨rfl, rfl⟩
  go_wp2
  refine wp_loop_rounds 2 ?_
  rw [rounds_succ]
  go_wp2_with (at_builtin; refine wpList_append_lies _ (by rfl) _ _ 22 (by rfl) B 36 i0 (.agg #[.int .i64 0, .int .i64 0, .int .i64 0, .string ⟨#[]⟩, .string ⟨#[]⟩]) 5 56 Tryz.underlying22 hi hz0 hz1 hz2 (by rfl) (by omega) (.slice a l.length cp) l.length (ndCells l) (by rfl) (hownH.out _ _) ⟨WA.heap.size + 1, 0, none⟩ 1 1 (five (ndA (depth : Int))) (by rfl) (by rfl) (hnew.out _) hone.out (by omega) (by unfold maxLen; omega) (by have := hsAH.out; omega) (by have := hsAH.out; simp; omega) (WA.heap.size + 1 + 1) (by simp) ?_)
  intro g cap1 w3 hown3 hgrow hat hltg
  have hlt := (hownA2.out).lt
  have hs3 := hgrow.size
  have hsz2 : ∀ o1 o2, ((WA.alloc o1).alloc o2).heap.size = WA.heap.size + 2 := by intro o1 o2; simp
  rw [hsz2] at hs3
  have hX : w3.heap[WA.heap.size]? = some (.cells #[.int .i64 8, .string ⟨#[]⟩, .string ⟨#[97]⟩, .pointer none, .pointer none, .int .i64 0, .bool false, .bool false] 98 (0, 0)) := by
    rw [hgrow.block WA.heap.size (by rw [hsz2]; omega) (fun e => by have := hlt _ e.symm; omega), Below.heap_alloc _ _ _ (by simp)]
    exact alloc_new _ _
  have hM3 : w3.heap[m]? = some (.cells partA 100 (0, 0)) := by
    rw [hgrow.block m (by rw [hsz2]; have := hsAH.out; omega) hne, Below.heap_alloc _ _ _ (by simp; have := hsAH.out; omega), Below.heap_alloc _ _ _ (by have := hsAH.out; omega)]
    exact hMAH.out
  have x3 : w3.cell? ⟨WA.heap.size, 3, none⟩ = some (.pointer none) := cell_blk hX 3 _ rfl
  have x4 : w3.cell? ⟨WA.heap.size, 4, none⟩ = some (.pointer none) := cell_blk hX 4 _ rfl
  have hN := hid (appendParts_nil (some ⟨g, 0, none⟩) (l.length + 1) cap1 ((depth : Int) + 1) w3)
  have hBh := hid (behind_any m (.pointer none) (w3.alloc (.cells #[.pointer none, .pointer none] 75)) (by
    rw [((Below.refl w3.heap.size w3).alloc (Nat.le_refl _) _).cell (p := ⟨m, 9, none⟩) (by show m < _; have := hsAH.out; omega)]; exact cell_blk hM3 9 _ rfl) ⟨_, rfl⟩)
  have hgfin : Hid (w.grownBy (w3.alloc (.cells #[.pointer none, .pointer none] 75)) (Value.slice a l.length cp).ownBlock) := hid (by
    have g1 : w.grownBy WA (Value.slice a l.length cp).ownBlock := grown_below hbAH.out _
    exact grown_trans (grown_trans (grown_trans (grown_trans g1 (World.grownBy_alloc _ _ _) (fun g h => .inl h)) (World.grownBy_alloc _ _ _) (fun g h => .inl h)) hgrow (fun g h => .inl h)) (World.grownBy_alloc _ _ _) (fun g h => .inl h))
  have hatfin : Hid (∀ g', (Value.slice (some ⟨g, 0, none⟩) (l ++ [ndA depth]).length cap1).ownBlock = some g' → (Value.slice a l.length cp).ownBlock = some g' ∨ w.heap.size ≤ g') := hid (by
    intro g' hg'
    have : g = g' := by simpa [Value.ownBlock] using hg'
    subst this
    rcases hat with h | h
    · exact .inl h
    · exact .inr (by have := hsAH.out; omega))
  have hofin : Hid (OwnsN B (some ⟨g, 0, none⟩) cap1 (l ++ [ndA depth]) (w3.alloc (.cells #[.pointer none, .pointer none] 75))) := hid (by
    unfold OwnsN; rw [ndCells_snoc, List.length_append]; exact World.ownsRow.alloc hown3 _)
  clear hown3 hgrow hat hltg hX hM3 hlt hs3 hsz2
  go_wp2_with (go_at_call 40; refine hN.out.mono ?_; rintro e w' ⟨rfl, rfl⟩)
  refine hBh.out.mono ?_
  rintro e w' ⟨rfl, rfl⟩
  go_wp2
  rw [rounds_succ]
  go_wp2
  go_ret
  refine ⟨some ⟨g, 0, none⟩, cap1, ?_, hofin.out, hgfin.out, hatfin.out⟩
  rw [List.length_append]; rfl

end Go.Proofs.YtpoaadfkalnjgaaGreatDoor
