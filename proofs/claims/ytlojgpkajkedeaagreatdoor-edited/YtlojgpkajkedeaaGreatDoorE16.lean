import Derived.Test.YtlojgpkajkedeaaGreatDoorE15
/- The openings: kill, Each. -/
namespace Go.Proofs.YtlojgpkajkedeaaGreatDoor
open Go.RowKit
def Opn.kill (o : Opn) : Opn := { o with dead := o.dead || !o.image }

theorem ownsRow_set {w : World} {base : Nat} {e : TypeId} {size n : Nat} {v : Value} {xs : List Value} (h : w.ownsRow base e size v n xs) {g : Nat} (hg : v.ownBlock = some g) (i : Nat) (u : Value) : (w.setCell ⟨g, i, none⟩ u).ownsRow base e size v n (xs.set i u) := by
  rcases h.2 with ⟨rfl, _⟩ | ⟨g', cap, cur, rfl, hb, hh, hc1, hc2, hc3, ht⟩
  · simp [Value.ownBlock] at hg
  · have hgg : g' = g := by simpa [Value.ownBlock] using hg
    subst hgg
    refine ⟨by rw [List.length_set]; exact h.1, .inr ⟨g', cap, (cur.toList.set i u).toArray, rfl, hb, ?_, hc1, hc2, by simp [hc3], ?_⟩⟩
    · exact set_blk (cs := cur.toList) (by simpa using hh) i u
    · rw [← ht]
      simp only
      rw [List.take_set]

set_option maxRecDepth 100000 in
set_option maxHeartbeats 4000000 in
theorem kill_any (g o : Nat) (im dd : Bool) (w : World) (h1 : w.cell? ⟨g, o + 1, none⟩ = some (.bool im)) (h2 : w.cell? ⟨g, o + 2, none⟩ = some (.bool dd)) (hf : w.frozen? ⟨g, o + 2, none⟩ = false) :
    Calls Tryz.prog 240 #[.pointer (some ⟨g, o, none⟩)] w fun e w' => e = .returned (.tuple #[]) ∧ w' = w.setCell ⟨g, o + 2, none⟩ (.bool (dd || !im)) := by
  go_enter Tryz.func240, Tryz.ntmps240
  cases dd <;> cases im <;> go_wp2
  all_goals go_end0
  all_goals exact ⟨rfl, rfl⟩

theorem opnCells_mid (ms : List Mem) (X Y : List Opn) (o : Opn) : opnCells ms (X ++ o :: Y) = opnCells ms X ++ (Value.pointer ((ms[o.j]?).map Mem.ad) :: .bool o.image :: .bool o.dead :: opnCells ms Y) := by
  unfold opnCells
  rw [List.map_append, List.flatten_append]
  simp
def ownL (sa : Option Addr) : List Nat := match sa with
  | some a => [a.block]
  | none => []

theorem Cut.killed {C : Nat} {ct : ByteArray} {f k g : Nat} {ms : List Mem} {X Y : List Opn} {o : Opn} {sc : Nat} {A : Nat → Prop} {w : World} (h : Cut C ct f k ms (X ++ o :: Y) (some ⟨g, 0, none⟩) sc A w) :
    Cut C ct f k ms (X ++ o.kill :: Y) (some ⟨g, 0, none⟩) sc A (w.setCell ⟨g, X.length * 3 + 2, none⟩ (.bool (o.dead || !o.image))) := by
  have hln : (X ++ o.kill :: Y).length = (X ++ o :: Y).length := by simp
  have hob : ∀ n, (Value.slice (some (⟨g, 0, none⟩ : Addr)) n sc).ownBlock = some g := fun _ => rfl
  have hlt := h.own.lt g (hob _)
  have hset : opnCells ms (X ++ o.kill :: Y) = (opnCells ms (X ++ o :: Y)).set (X.length * 3 + 2) (.bool (o.dead || !o.image)) := by
    rw [opnCells_mid, opnCells_mid, List.set_append_right _ _ (by rw [opnCells_length]; omega), opnCells_length, show X.length * 3 + 2 - X.length * 3 = 2 by omega]
    rfl
  have hne : ∀ x, some x ≠ some g → x ≠ g := fun x hx e => hx (by rw [e])
  refine ⟨?_, ?_, ?_, ?_, ?_, h.above, ?_, ?_, h.fk, h.kl, h.small, h.bytes, h.runs⟩
  · rw [hln]
    exact h.ch.move (fun x hx => Below.heap_setCell _ _ _ _ (by
      rcases List.mem_cons.1 hx with rfl | hx
      · show x ≠ g; omega
      · exact hne x (h.sep x hx)))
  · intro e he
    exact (h.kids e he).move (fun x hx => hx) (fun x hx => Below.heap_setCell _ _ _ _ (hne x (h.dead x hx).2.2))
  · intro x hx
    have hd := h.dead x hx
    exact ⟨by simp [World.setCell]; exact hd.1, hd.2⟩
  · rw [hln, hset]; exact ownsRow_set h.own (hob _) _ _
  · intro x hx; exact h.sep x hx
  · intro x hx
    rcases List.mem_append.1 hx with hx | hx
    · exact h.inl x (List.mem_append_left _ hx)
    · rcases List.mem_cons.1 hx with rfl | hx
      · exact h.inl o (by simp)
      · exact h.inl x (by simp [hx])
  · have hu := List.pairwise_append.1 h.up
    have hc := List.pairwise_cons.1 hu.2.1
    refine List.pairwise_append.2 ⟨hu.1, List.pairwise_cons.2 ⟨hc.1, hc.2⟩, fun x hx y hy => ?_⟩
    rcases List.mem_cons.1 hy with rfl | hy
    · exact hu.2.2 x hx o (by simp)
    · exact hu.2.2 x hx y (by simp [hy])

set_option maxRecDepth 100000 in
set_option maxHeartbeats 4000000 in
theorem each_any (C : Nat) (ct : ByteArray) (f k : Nat) (ms : List Mem) (os : List Opn) (sa : Option Addr) (sc : Nat) (A : Nat → Prop) (w : World) (h : Cut C ct f k ms os sa sc A w) (hol : os.length ≤ 1000000) :
    Calls Tryz.prog 239 #[.pointer (some ⟨C, 5, none⟩), .func (.func 240) #[] #[]] w fun e w' => e = .returned (.tuple #[]) ∧ Cut C ct f k ms (os.map Opn.kill) sa sc A w' ∧ Fr (ownL sa) w w' := by
  have hcc := h.cells
  have hcl := h.lt
  have q5 : w.cell? ⟨C, 5, none⟩ = some (.slice sa os.length sc) := cell_blk hcc 5 _ rfl
  have hH := hid h
  clear h hcc
  go_enter Tryz.func239, Tryz.ntmps239
  go_wp2_with fail
  go_loopg [10] os.length (fun n i wr => ∃ X Y, os = X ++ Y ∧ n = Y.length ∧ i = .int .i64 (X.length : Nat) ∧ Cut C ct f k ms (X.map Opn.kill ++ Y) sa sc A wr ∧ Fr (ownL sa) w wr)
  case atStart => exact ⟨[], os, rfl, rfl, rfl, hH.out, Fr.refl _ _⟩
  case round =>
    obtain ⟨X, Y, hos, rfl, rfl, hC, hfr⟩ := hrel
    have hosl : os.length = X.length + Y.length := by rw [hos]; simp
    have hCH := hid hC
    have hfH := hid hfr
    cases Y with
    | nil =>
      clear hC hfr
      simp only [List.length_nil, Nat.add_zero] at hosl
      have hlt : ¬ ((X.length : Int) < (os.length : Int)) := by omega
      go_wp2
      go_end0
      have := hCH.out
      rw [List.append_nil] at this
      exact ⟨rfl, this, hfH.out⟩
    | cons o Y =>
      have hlt : ((X.length : Int) < (os.length : Int)) := by rw [hosl]; simp; omega
      have hltn : X.length < os.length := by rw [hosl]; simp
      have hln : (X.map Opn.kill ++ o :: Y).length = os.length := by rw [hosl]; simp
      obtain ⟨g, cap, hv, hg, hgl⟩ := hC.own.form (by omega)
      have hsa : sa = some ⟨g, 0, none⟩ := by injection hv
      subst hsa
      have hcc := hC.cells
      rw [hln] at hcc
      have q5 : wr.cell? ⟨C, 5, none⟩ = some (.slice (some ⟨g, 0, none⟩) os.length sc) := cell_blk hcc 5 _ rfl
      have hadd : ∀ j, (⟨g, 0, none⟩ : Addr).add j = ⟨g, j, none⟩ := fun j => by unfold Addr.add; split <;> simp_all
      have hat3 : ∀ i u, ([Value.pointer ((ms[o.j]?).map Mem.ad), .bool o.image, .bool o.dead] : List Value)[i]? = some u → wr.cell? ⟨g, X.length * 3 + i, none⟩ = some u := fun i u hu => by
        have := hC.own.cells (g := g) rfl (X.length * 3 + i) u (by
          rw [opnCells_mid, List.getElem?_append_right (by rw [opnCells_length, List.length_map]; omega), opnCells_length, List.length_map, show X.length * 3 + i - X.length * 3 = i by omega]
          have hi : i < 3 := (List.getElem?_eq_some_iff.1 hu).1
          rw [← hu]
          rcases i with _ | _ | _ | i <;> first | rfl | omega)
        rw [hadd] at this
        exact this
      have hfz : wr.frozen? ⟨g, X.length * 3 + 2, none⟩ = false := by
        rcases hC.own.2 with ⟨h1, h0⟩ | ⟨g', cap', cur, hv', _, hh, _⟩
        · rw [hln] at h0; omega
        · have : g = g' := by injection hv' with h1; injection h1 with h2; injection h2
          subst this
          exact free_blk hh _
      have hK := hid (kill_any g (X.length * 3) o.image o.dead wr (hat3 1 _ rfl) (hat3 2 _ rfl) hfz)
      clear hC hfr hcc hat3 hadd hv
      have hosH := hid hos
      clear hos hosl
      go_wp2_with fail
      refine hK.out.mono ?_
      rintro e w' ⟨rfl, rfl⟩
      go_wp2
      go_roundg Y.length
      case rel =>
        refine ⟨X ++ [o], Y, by rw [hosH.out]; simp, rfl, by simp, ?_, hfH.out.setCell _ (.inl (by simp [ownL])) _⟩
        have := hCH.out.killed
        rw [List.length_map] at this
        rw [List.map_append]
        simpa using this
      case measure => simp
end Go.Proofs.YtlojgpkajkedeaaGreatDoor
/- close: what stays text. -/
namespace Go.Proofs.YtlojgpkajkedeaaGreatDoor
open Go.RowKit

set_option maxRecDepth 100000 in
set_option maxHeartbeats 4000000 in
theorem close_none (C : Nat) (ct : ByteArray) (f k : Nat) (ms : List Mem) (sa : Option Addr) (sc : Nat) (A : Nat → Prop) (w : World) (h : Cut C ct f k ms [] sa sc A w) :
    Calls Tryz.prog 203 #[.pointer (some ⟨C, 0, none⟩)] w fun e w' => e = .returned (.bool false) ∧ Below w.heap.size w w' := by
  have hP := hid (fun (wx : World) (hx : Below w.heap.size w wx) => pop_none C ct f k ms sa sc A wx (h.below hx))
  clear h
  go_enter Tryz.func203, Tryz.ntmps203
  go_wp2_with fail
  refine (hP.out _ (by first | exact Below.refl _ _ | exact (Below.refl _ _).drew | exact (Below.refl _ _).alloc (Nat.le_refl _) _)).mono ?_
  rintro e w1 ⟨rfl, hb1⟩
  have hbH := hid hb1
  clear hb1
  go_wp2
  go_ret
  exact ⟨rfl, hbH.out.alloc hbH.out.size _⟩

set_option maxRecDepth 100000 in
set_option maxHeartbeats 4000000 in
theorem close_dead (C : Nat) (ct : ByteArray) (f k : Nat) (ms : List Mem) (os : List Opn) (o : Opn) (sa : Option Addr) (sc : Nat) (A : Nat → Prop) (w : World) (h : Cut C ct f k ms (os ++ [o]) sa sc A w) (hol : os.length ≤ 1000000) (hd : o.dead = true) :
    Calls Tryz.prog 203 #[.pointer (some ⟨C, 0, none⟩)] w fun e w' => e = .returned (.bool false) ∧ Cut C ct f k ms os sa sc A w' ∧ Below C w w' := by
  have hcl := h.lt
  have hP := hid (pop_some C ct f k ms os o sa sc A w h hol)
  rw [hd] at hP
  have hH := hid h
  clear h
  go_enter Tryz.func203, Tryz.ntmps203
  go_wp2_with fail
  refine hP.out.mono ?_
  rintro e w1 ⟨rfl, hC1, hf1⟩
  have hall := hid (And.intro hC1 hf1)
  clear hC1 hf1
  go_wp2
  go_ret
  have hb : Below C w w1 := hall.out.2.below (Nat.le_of_lt hcl) (by simp)
  exact ⟨rfl, hall.out.1.below ((Below.refl _ _).alloc (Nat.le_refl _) _), hb.alloc (by have := hb.size; omega) _⟩

set_option maxRecDepth 100000 in
set_option maxHeartbeats 4000000 in
theorem close_bare (C : Nat) (ct : ByteArray) (f k : Nat) (ms : List Mem) (os : List Opn) (o : Opn) (sa : Option Addr) (sc : Nat) (A : Nat → Prop) (w : World) (h : Cut C ct f k ms (os ++ [o]) sa sc A w) (hol : os.length ≤ 1000000) (hd : o.dead = false) (hk : k + 1 ≤ ct.size) (hok : S.addrOk (ct.data.toList.drop (k + 1)) = false) :
    Calls Tryz.prog 203 #[.pointer (some ⟨C, 0, none⟩)] w fun e w' => e = .returned (.bool false) ∧ Cut C ct f k ms os sa sc A w' ∧ Below C w w' := by
  have hcl := h.lt
  have hsm := h.small
  have hP := hid (pop_some C ct f k ms os o sa sc A w h hol)
  rw [hd] at hP
  have hz : (ct.extract (k + 1) ct.size).size = ct.size - (k + 1) := by simp
  have hAd : Hid (∀ wx, Calls Tryz.prog 237 #[.string (ct.extract (k + 1) ct.size)] wx fun e w' => ∃ r : ByteArray, e = .returned (.tuple #[.string r, .bool false]) ∧ Below wx.heap.size wx w') := hid (fun wx => by
    have := addressOf_any (ct.extract (k + 1) ct.size) wx (by omega)
    rw [ext_rest, hok] at this
    exact this.mono (fun e w' ⟨r, h1, h2, h3⟩ => ⟨r, h1, h3⟩))
  have hH := hid h
  clear h
  go_enter Tryz.func203, Tryz.ntmps203
  go_wp2_with fail
  refine hP.out.mono ?_
  rintro e w1 ⟨rfl, hC1, hf1⟩
  have hcc := hC1.cells
  have hl1 := hC1.lt
  have q0 : w1.cell? ⟨C, 0, none⟩ = some (.string ct) := cell_blk hcc 0 _ rfl
  have q2 : w1.cell? ⟨C, 2, none⟩ = some (.int .i64 (k : Nat)) := cell_blk hcc 2 _ rfl
  have q0a : ∀ ob, (w1.alloc ob).cell? ⟨C, 0, none⟩ = some (.string ct) := fun ob => cell_blk ((Below.heap_alloc w1 ob C hl1).trans hcc) 0 _ rfl
  have q2a : ∀ ob, (w1.alloc ob).cell? ⟨C, 2, none⟩ = some (.int .i64 (k : Nat)) := fun ob => cell_blk ((Below.heap_alloc w1 ob C hl1).trans hcc) 2 _ rfl
  have hall := hid (And.intro hC1 hf1)
  clear hC1 hf1 hcc
  go_wp2_with fail
  obtain ⟨W, hW⟩ : ∃ W, W = w1.alloc (.cells #[.pointer ((ms[o.j]?).map Mem.ad), .bool o.image, .bool false] 253) := ⟨_, rfl⟩
  have hbW : Hid (Below w1.heap.size w1 W) := hid (by rw [hW]; exact (Below.refl _ _).alloc (Nat.le_refl _) _)
  have k0 : W.cell? ⟨C, 0, none⟩ = some (.string ct) := by rw [hW]; exact q0a _
  have k2 : W.cell? ⟨C, 2, none⟩ = some (.int .i64 (k : Nat)) := by rw [hW]; exact q2a _
  have hlW : C < W.heap.size := Nat.lt_of_lt_of_le hl1 hbW.out.size
  have hI0 : (0 : Int) ≤ (k : Int) + 1 := by omega
  have hI1 : (k : Int) + 1 ≤ (ct.size : Int) := by omega
  have hI2 : ((k : Int) + 1).toNat = k + 1 := by omega
  have hI3 : (k : Int) < (ct.size : Int) := by omega
  have hI4 : k < ct.size := by omega
  have hI5 : IntKind.i64.wrap ((k : Int) + 1) = (k : Int) + 1 := by rw [IntKind.wrap_i64]; omega
  rw [← hW]
  clear hW q0 q2 q0a q2a
  go_region_held3 (fun w' => w'.cell? ⟨C, 0, none⟩ = some (.string ct) ∧ w'.cell? ⟨C, 2, none⟩ = some (.int .i64 (k : Nat)))
    ((refine ⟨?_, ?_⟩ <;> (first | assumption | with_reducible exact k0 | with_reducible exact k2)))
    ((go_at_call 237; refine (hAd.out W.drew).mono ?_; rintro e w2 ⟨r, rfl, hb2⟩; have j0 := (hb2.cell (p := ⟨C, 0, none⟩) hlW).trans k0; have j2 := (hb2.cell (p := ⟨C, 2, none⟩) hlW).trans k2))
  have hb2H := hid hb2
  clear hb2
  go_wp2
  go_ret
  have hb : Below C w w1 := hall.out.2.below (Nat.le_of_lt hcl) (by simp)
  have hb12 : Below w1.heap.size w1 w2 := hbW.out.trans ((Below.refl _ W).drew.trans hb2H.out |>.mono hbW.out.size)
  exact ⟨rfl, hall.out.1.below hb12, hb.trans (hb12.mono (by have := hb.size; omega))⟩
end Go.Proofs.YtlojgpkajkedeaaGreatDoor
/- layBracket. -/
namespace Go.Proofs.YtlojgpkajkedeaaGreatDoor
open Go.RowKit

set_option maxRecDepth 100000 in
set_option maxHeartbeats 4000000 in
theorem bracket_shut (C : Nat) (ct : ByteArray) (f k : Nat) (x3 x4 x5 : Value) (w : World) (h : w.heap[C]? = some (.cells [.string ct, .int .i64 (f : Nat), .int .i64 (k : Nat), x3, x4, x5].toArray 168 (0, 0))) (hk : k ≤ ct.size) (hp : Lib.hasPrefix (ct.data.toList.drop k) [93] = true) (R : Bool → World → Prop)
    (hc : Calls Tryz.prog 203 #[.pointer (some ⟨C, 0, none⟩)] w.drew fun e w' => ∃ b, e = .returned (.bool b) ∧ R b w') :
    Calls Tryz.prog 158 #[.pointer (some ⟨C, 0, none⟩)] w fun e w' => ∃ b, e = .returned (.bool b) ∧ R b w' := by
  have h1 := hid (comes_any C ct ⟨#[93]⟩ f k x3 x4 x5 w h hk)
  rw [show (⟨#[93]⟩ : ByteArray).data.toList = [93] from rfl, hp] at h1
  have hcH := hid hc
  clear h hc
  go_enter Tryz.func158, Tryz.ntmps158
  go_wp2_with fail
  refine h1.out.mono ?_
  rintro e w' ⟨rfl, rfl⟩
  go_wp2_with fail
  refine hcH.out.mono ?_
  rintro e w' ⟨b, rfl, hR⟩
  go_wp2
  go_ret
  exact ⟨b, rfl, hR⟩

set_option maxRecDepth 100000 in
set_option maxHeartbeats 4000000 in
theorem bracket_open (C : Nat) (ct : ByteArray) (f k : Nat) (x3 x4 x5 : Value) (w : World) (h : w.heap[C]? = some (.cells [.string ct, .int .i64 (f : Nat), .int .i64 (k : Nat), x3, x4, x5].toArray 168 (0, 0))) (hk : k ≤ ct.size) (hp : Lib.hasPrefix (ct.data.toList.drop k) [93] = false) (hq : Lib.hasPrefix (ct.data.toList.drop k) [91] = true) (R : World → Prop)
    (hc : Calls Tryz.prog 204 #[.pointer (some ⟨C, 0, none⟩), .string ⟨#[91]⟩] w.drew.drew fun e w' => e = .returned (.tuple #[]) ∧ R w') :
    Calls Tryz.prog 158 #[.pointer (some ⟨C, 0, none⟩)] w fun e w' => e = .returned (.bool true) ∧ R w' := by
  have h1 := hid (comes_any C ct ⟨#[93]⟩ f k x3 x4 x5 w h hk)
  have h2 := hid (comes_any C ct ⟨#[91]⟩ f k x3 x4 x5 w.drew h hk)
  rw [show (⟨#[93]⟩ : ByteArray).data.toList = [93] from rfl, hp] at h1
  rw [show (⟨#[91]⟩ : ByteArray).data.toList = [91] from rfl, hq] at h2
  have hcH := hid hc
  clear h hc
  go_enter Tryz.func158, Tryz.ntmps158
  go_wp2_with fail
  refine h1.out.mono ?_
  rintro e w' ⟨rfl, rfl⟩
  go_wp2_with fail
  refine h2.out.mono ?_
  rintro e w' ⟨rfl, rfl⟩
  go_wp2_with fail
  refine hcH.out.mono ?_
  rintro e w' ⟨rfl, hR⟩
  go_wp2
  go_ret
  exact ⟨rfl, hR⟩

set_option maxRecDepth 100000 in
set_option maxHeartbeats 4000000 in
theorem bracket_image (C : Nat) (ct : ByteArray) (f k : Nat) (x3 x4 x5 : Value) (w : World) (h : w.heap[C]? = some (.cells [.string ct, .int .i64 (f : Nat), .int .i64 (k : Nat), x3, x4, x5].toArray 168 (0, 0))) (hk : k ≤ ct.size) (hp : Lib.hasPrefix (ct.data.toList.drop k) [93] = false) (hq : Lib.hasPrefix (ct.data.toList.drop k) [91] = false) (hr : Lib.hasPrefix (ct.data.toList.drop k) [33, 91] = true) (R : World → Prop)
    (hc : Calls Tryz.prog 204 #[.pointer (some ⟨C, 0, none⟩), .string ⟨#[33, 91]⟩] w.drew.drew.drew fun e w' => e = .returned (.tuple #[]) ∧ R w') :
    Calls Tryz.prog 158 #[.pointer (some ⟨C, 0, none⟩)] w fun e w' => e = .returned (.bool true) ∧ R w' := by
  have h1 := hid (comes_any C ct ⟨#[93]⟩ f k x3 x4 x5 w h hk)
  have h2 := hid (comes_any C ct ⟨#[91]⟩ f k x3 x4 x5 w.drew h hk)
  have h3 := hid (comes_any C ct ⟨#[33, 91]⟩ f k x3 x4 x5 w.drew.drew h hk)
  rw [show (⟨#[93]⟩ : ByteArray).data.toList = [93] from rfl, hp] at h1
  rw [show (⟨#[91]⟩ : ByteArray).data.toList = [91] from rfl, hq] at h2
  rw [show (⟨#[33, 91]⟩ : ByteArray).data.toList = [33, 91] from rfl, hr] at h3
  have hcH := hid hc
  clear h hc
  go_enter Tryz.func158, Tryz.ntmps158
  go_wp2_with fail
  refine h1.out.mono ?_
  rintro e w' ⟨rfl, rfl⟩
  go_wp2_with fail
  refine h2.out.mono ?_
  rintro e w' ⟨rfl, rfl⟩
  go_wp2_with fail
  refine h3.out.mono ?_
  rintro e w' ⟨rfl, rfl⟩
  go_wp2_with fail
  refine hcH.out.mono ?_
  rintro e w' ⟨rfl, hR⟩
  go_wp2
  go_ret
  exact ⟨rfl, hR⟩

set_option maxRecDepth 100000 in
set_option maxHeartbeats 4000000 in
theorem bracket_none (C : Nat) (ct : ByteArray) (f k : Nat) (x3 x4 x5 : Value) (w : World) (h : w.heap[C]? = some (.cells [.string ct, .int .i64 (f : Nat), .int .i64 (k : Nat), x3, x4, x5].toArray 168 (0, 0))) (hk : k ≤ ct.size) (hp : Lib.hasPrefix (ct.data.toList.drop k) [93] = false) (hq : Lib.hasPrefix (ct.data.toList.drop k) [91] = false) (hr : Lib.hasPrefix (ct.data.toList.drop k) [33, 91] = false) :
    Calls Tryz.prog 158 #[.pointer (some ⟨C, 0, none⟩)] w fun e w' => e = .returned (.bool false) ∧ Below w.heap.size w w' := by
  have h1 := hid (comes_any C ct ⟨#[93]⟩ f k x3 x4 x5 w h hk)
  have h2 := hid (comes_any C ct ⟨#[91]⟩ f k x3 x4 x5 w.drew h hk)
  have h3 := hid (comes_any C ct ⟨#[33, 91]⟩ f k x3 x4 x5 w.drew.drew h hk)
  rw [show (⟨#[93]⟩ : ByteArray).data.toList = [93] from rfl, hp] at h1
  rw [show (⟨#[91]⟩ : ByteArray).data.toList = [91] from rfl, hq] at h2
  rw [show (⟨#[33, 91]⟩ : ByteArray).data.toList = [33, 91] from rfl, hr] at h3
  clear h
  go_enter Tryz.func158, Tryz.ntmps158
  go_wp2_with fail
  refine h1.out.mono ?_
  rintro e w' ⟨rfl, rfl⟩
  go_wp2_with fail
  refine h2.out.mono ?_
  rintro e w' ⟨rfl, rfl⟩
  go_wp2_with fail
  refine h3.out.mono ?_
  rintro e w' ⟨rfl, rfl⟩
  go_wp2
  go_ret
  exact ⟨rfl, (Below.refl _ _).drew.drew.drew⟩
end Go.Proofs.YtlojgpkajkedeaaGreatDoor
