import Derived.Test.YtlojgpkajkedeaaGreatDoorE16
import Derived.Test.YtlojgpkajkedeaaGreatDoorE18
import Derived.Test.YtlojgpkajkedeaaGreatDoorE8
/- close: what lies in the made part's box, and the member that it is laid into. -/
namespace Go.Proofs.YtlojgpkajkedeaaGreatDoor
open Go.RowKit

def madeCells (kd : Int) (r : ByteArray) : List Value := [.int .i64 kd, .string r, .string ⟨#[]⟩, undef, undef, .int .i64 0, .bool false, .bool false]
/-- What was taken out lies in the made part's box. -/
structure MadeR (C b K : Nat) (ct r : ByteArray) (P Q : List Mem) (a : Mem) (os : List Opn) (sa : Option Addr) (sc : Nat) (A : Nat → Prop) (w : World) : Prop where
  cut : Cut C ct K K (P ++ [a]) os sa sc A w
  ch : Ch w b 3 177 (madeCells 13 r) Q
  kids : Kd w A Q
  dead : ∀ x, A x → x < w.heap.size ∧ x ∉ b :: blks Q
  txt : txt (Q.map Mem.p) ≤ 1000000
  runs : ∀ x ∈ Q, x.p.rs ≤ 1000000
  sep : ∀ x ∈ b :: blks Q, x ∉ C :: blks (P ++ [a]) ∧ ¬ A x ∧ some x ≠ (Value.slice sa os.length sc).ownBlock
theorem made_of {C b K : Nat} {ct r : ByteArray} {P Q : List Mem} {a : Mem} {os : List Opn} {sa : Option Addr} {sc : Nat} {A : Nat → Prop} {w3 W4 : World} (h : Cut C ct K K (P ++ a :: Q) os sa sc A w3) (hup : ∀ x ∈ os, x.j < P.length) (hc : Ch W4 C 3 168 (cutCells ct K K (.slice sa os.length sc)) (P ++ [a])) (hs : Seg W4 none Q none) (hf : Fr (C :: blks (P ++ a :: Q)) w3 W4) (hb : W4.heap[b]? = some (.cells #[.int .i64 13, .string r, .string ⟨#[]⟩, .pointer (hd Q none), .pointer (lst Q none), .int .i64 0, .bool false, .bool false] 177 (0, 0))) (hbz : w3.heap.size ≤ b) :
    MadeR C b K ct r P Q a os sa sc A W4 := by
  have hnd := h.ch.nodup
  rw [show P ++ a :: Q = (P ++ [a]) ++ Q by simp, blks_append] at hnd
  have hnd' := List.nodup_append.1 hnd
  have hin : ∀ x ∈ blks Q, x ∈ blks (P ++ a :: Q) := fun x hx => by rw [show P ++ a :: Q = (P ++ [a]) ++ Q by simp, blks_append]; exact List.mem_append_right _ hx
  have hin2 : ∀ x ∈ blks (P ++ [a]), x ∈ blks (P ++ a :: Q) := fun x hx => by rw [show P ++ a :: Q = (P ++ [a]) ++ Q by simp, blks_append]; exact List.mem_append_left _ hx
  have hlt : ∀ x ∈ blks (P ++ a :: Q), x < w3.heap.size := fun x hx => h.ch.mlt x hx
  have hmem : ∀ e ∈ Q, e ∈ P ++ a :: Q := fun e he => by simp [he]
  refine ⟨h.taken hup hc hf, ⟨hs, ⟨hb, by show 3 + 1 < 8; omega⟩, hnd'.2.1, fun hm => by have := hlt b (hin b hm); omega⟩, fun e he => (h.kids e (hmem e he)).move (fun x hx => hx) (fun x hx => hf.block x (h.dead x hx).1 (h.dead x hx).2.1), fun x hx => ?_, ?_, fun x hx => h.runs x (hmem x hx), fun x hx => ?_⟩
  · have hd := h.dead x hx
    refine ⟨Nat.lt_of_lt_of_le hd.1 hf.size, fun hm => ?_⟩
    rcases List.mem_cons.1 hm with hm | hm
    · omega
    · exact hd.2.1 (List.mem_cons_of_mem _ (hin x hm))
  · have hb := h.bytes
    rw [show P ++ a :: Q = (P ++ [a]) ++ Q by simp, List.map_append, txt_append] at hb
    have := h.kl
    have := h.small
    omega
  · rcases List.mem_cons.1 hx with rfl | hx
    · refine ⟨fun hm => ?_, fun hA => by have := (h.dead x hA).1; omega, fun e => by have := (h.own.lt x e.symm).2; omega⟩
      rcases List.mem_cons.1 hm with hm | hm
      · have := h.lt; omega
      · have := hlt x (hin2 x hm); omega
    · refine ⟨fun hm => ?_, fun hA => (h.dead x hA).2.1 (List.mem_cons_of_mem _ (hin x hx)), h.sep x (hin x hx)⟩
      rcases List.mem_cons.1 hm with hm | hm
      · exact h.ch.out (by rw [← hm]; exact hin x hx)
      · exact hnd'.2.2 x hm x hx rfl

theorem made_sealed {C b K : Nat} {ct r : ByteArray} {P Q l' : List Mem} {a : Mem} {os os6 : List Opn} {sa : Option Addr} {sc : Nat} {A A5 : Nat → Prop} {W4 w5 w6 w7 : World} {cs : List Value} {kd : Int} {t : List UInt8} (hM : MadeR C b K ct r P Q a os sa sc A W4) (hS : Settled b 3 177 cs Q A W4 l' A5 w5) (hC : Cut C ct K K (P ++ [a]) os6 sa sc A w6) (hup : ∀ x ∈ os6, x.j < P.length) (hz : w5.heap.size ≤ w6.heap.size) (hkeep : ∀ x, A x ∨ A5 x ∨ x ∈ blks l' → w6.heap[x]? = w5.heap[x]?)
    (hf : Fr [a.m] w6 w7) (hb : w7.heap[a.m]? = some (.cells (memCells ⟨a.m, .mk kd t [] (settleT (Q.map Mem.p)) 0 false false, hd l' none, lst l' none⟩ (lst P none) none).toArray 179 (0, 0))) :
    Cut C ct K K (P ++ [⟨a.m, .mk kd t [] (settleT (Q.map Mem.p)) 0 false false, hd l' none, lst l' none⟩]) os6 sa sc (fun x => A x ∨ A5 x ∨ x ∈ blks l') w7 := by
  have hob : (Value.slice sa os6.length sc).ownBlock = (Value.slice sa os.length sc).ownBlock := by cases sa <;> rfl
  have hfar : ∀ x, W4.heap.size ≤ x → x ∉ C :: blks (P ++ [a]) ∧ some x ≠ (Value.slice sa os6.length sc).ownBlock := fun x hx => by
    refine ⟨fun hm => ?_, fun e => ?_⟩
    · rcases List.mem_cons.1 hm with hm | hm
      · have := hM.cut.lt; omega
      · have := hM.cut.ch.mlt x hm; omega
    · rw [hob] at e
      have := (hM.cut.own.lt x e.symm).2; omega
  have hq : ∀ x ∈ blks Q, x ∉ C :: blks (P ++ [a]) ∧ some x ≠ (Value.slice sa os6.length sc).ownBlock := fun x hx => by
    rw [hob]; have := hM.sep x (List.mem_cons_of_mem _ hx); exact ⟨this.1, this.2.2⟩
  have hk : KRep w5 (fun x => A x ∨ A5 x ∨ x ∈ blks l') (hd l' none) (l'.map Mem.p) := krep_of_seg hS.ch.seg (fun e he => .inr (.inr (List.mem_map_of_mem he))) (fun e he => (hS.kids e he).move (fun x hx => .inr (.inl hx)) (fun _ _ => rfl))
  refine hC.sealed hup rfl hf hb (fun x hx => .inl hx) (fun x hx => ?_) ?_ rfl rfl
  · rcases hx with hx | hx | hx
    · exact hC.dead x hx
    · refine ⟨Nat.lt_of_lt_of_le (hS.dead x hx).1 hz, ?_⟩
      rcases hS.old x hx with h1 | h1 | h1
      · exact (hC.dead x h1).2
      · exact hq x h1
      · exact hfar x h1
    · refine ⟨Nat.lt_of_lt_of_le (hS.ch.mlt x hx) hz, ?_⟩
      rcases hS.live x hx with h1 | h1
      · exact hq x h1
      · exact hfar x h1
  · have h1 := hk.move (fun x hx => hx) (w' := w6) hkeep
    rw [hS.part] at h1
    exact h1
end Go.Proofs.YtlojgpkajkedeaaGreatDoor
/- close: a link or an image is made. -/
namespace Go.Proofs.YtlojgpkajkedeaaGreatDoor
open Go.RowKit

theorem frozen_same {w w' : World} {b : Nat} (h : w'.heap[b]? = w.heap[b]?) (o : Nat) : w'.frozen? ⟨b, o, none⟩ = w.frozen? ⟨b, o, none⟩ := by simp only [World.frozen?]; rw [h]

def closePt (t : List UInt8) (im : Bool) (l : List Pt) : Pt := .mk (if im then 13 else 12) t [] (settleT l) 0 false false

theorem own_of {sa : Option Addr} {n sc x : Nat} (hx : x ∈ ownL sa) : (Value.slice sa n sc).ownBlock = some x := by
  cases sa <;> simp [ownL] at hx; subst hx; rfl
theorem made_keep {C b K : Nat} {ct r : ByteArray} {P Q l' : List Mem} {a : Mem} {os : List Opn} {sa : Option Addr} {sc : Nat} {A A5 : Nat → Prop} {W4 w5 w5' w6 : World} {cs : List Value} (hM : MadeR C b K ct r P Q a os sa sc A W4) (hS : Settled b 3 177 cs Q A W4 l' A5 w5) (hfb : Fr [b] w5 w5') (hf6 : Fr (ownL sa) w5' w6) : ∀ x, A x ∨ A5 x ∨ x ∈ blks l' → w6.heap[x]? = w5.heap[x]? := by
  have hz := hS.fr.size
  have hz' := hfb.size
  have hA : ∀ x, A x → x < w5.heap.size ∧ x ≠ b ∧ x ∉ ownL sa := fun x hx => ⟨by have := (hM.dead x hx).1; omega, fun e => (hM.sep b List.mem_cons_self).2.1 (e ▸ hx), fun hm => (hM.cut.dead x hx).2.2 (own_of hm).symm⟩
  have hQ : ∀ x ∈ blks Q, x ∉ ownL sa := fun x hx hm => (hM.sep x (List.mem_cons_of_mem _ hx)).2.2 (own_of hm).symm
  have hF : ∀ x, W4.heap.size ≤ x → x ∉ ownL sa := fun x hx hm => by have := (hM.cut.own.lt x (own_of hm)).2; omega
  have key : ∀ x, x < w5.heap.size ∧ x ≠ b ∧ x ∉ ownL sa → w6.heap[x]? = w5.heap[x]? := fun x h => by
    rw [hf6.block x (by omega) h.2.2, hfb.block x h.1 (by simpa using h.2.1)]
  intro x hx
  apply key
  rcases hx with hx | hx | hx
  · exact hA x hx
  · have hd := hS.dead x hx
    refine ⟨hd.1, fun e => hd.2 (by rw [e]; exact List.mem_cons_self), ?_⟩
    rcases hS.old x hx with h1 | h1 | h1
    · exact (hA x h1).2.2
    · exact hQ x h1
    · exact hF x h1
  · refine ⟨hS.ch.mlt x hx, fun e => hS.ch.out (by rw [← e]; exact hx), ?_⟩
    rcases hS.live x hx with h1 | h1
    · exact hQ x h1
    · exact hF x h1

set_option maxRecDepth 100000 in
set_option maxHeartbeats 4000000 in
theorem close_some (C : Nat) (ct : ByteArray) (f k n : Nat) (P M : List Mem) (a : Mem) (os : List Opn) (o : Opn) (sa : Option Addr) (sc : Nat) (A : Nat → Prop) (w : World) (h : Cut C ct f k (P ++ a :: M) (os ++ [o]) sa sc A w) (hoj : o.j = P.length) (hol : os.length ≤ 1000000) (hdd : o.dead = false) (hk : k + 1 ≤ ct.size) (hok : S.addrOk (ct.data.toList.drop (k + 1)) = true) (hn : (S.addrOf (ct.data.toList.drop (k + 1))).length = n) (hkn : k + (3 + n) ≤ ct.size) (R : Ending → World → Prop) (hR : ∀ e w', (∃ m1 A' kf kl, e = .returned (.bool true) ∧ Cut C ct (k + (3 + n)) (k + (3 + n)) (P ++ [⟨a.m, closePt (S.addrOf (ct.data.toList.drop (k + 1))) o.image ((M ++ skipMs ct f k m1).map Mem.p), kf, kl⟩]) (if o.image then os else os.map Opn.kill) sa sc A' w' ∧ Below C w w') → R e w') :
    Calls Tryz.prog 203 #[.pointer (some ⟨C, 0, none⟩)] w R := by
  have hcl := h.lt
  have hsm := h.small
  have hP := hid (pop_some C ct f k (P ++ a :: M) os o sa sc A w h hol)
  have hga : ((P ++ a :: M)[o.j]?).map Mem.ad = some ⟨a.m, 0, none⟩ := by rw [hoj]; simp
  rw [hdd, hga] at hP
  have hz : (ct.extract (k + 1) ct.size).size = ct.size - (k + 1) := by simp
  obtain ⟨t, ht⟩ : ∃ t, S.addrOf (ct.data.toList.drop (k + 1)) = t := ⟨_, rfl⟩
  rw [ht] at hn hR
  have hRH := hid hR
  clear hR
  have hAd : Hid (∀ wx, Calls Tryz.prog 237 #[.string (ct.extract (k + 1) ct.size)] wx fun e w' => ∃ r : ByteArray, e = .returned (.tuple #[.string r, .bool true]) ∧ Hid (r.data.toList = t) ∧ Below wx.heap.size wx w') := hid (fun wx => by
    have := addressOf_any (ct.extract (k + 1) ct.size) wx (by omega)
    rw [ext_rest, hok, ht] at this
    exact this.mono (fun e w' ⟨r, h1, h2, h3⟩ => ⟨r, h1, hid (h2.out rfl), h3⟩))
  have hup : Hid (∀ x ∈ os, x.j < P.length) := hid (fun x hx => by
    have := (List.pairwise_append.1 h.up).2.2 x hx o (by simp)
    omega)
  have hbm : Hid (∀ x ∈ C :: blks (P ++ a :: M), x < w.heap.size) := hid (fun x hx => by
    rcases List.mem_cons.1 hx with rfl | hx
    · exact h.lt
    · exact h.ch.mlt x hx)
  have hH := hid h
  clear h ht
  go_enter Tryz.func203, Tryz.ntmps203
  go_wp2_with fail
  refine hP.out.mono ?_
  rintro e w1 ⟨rfl, hC1, hf1⟩
  have hcc := hC1.cells
  have hl1 := hC1.lt
  have q0a : ∀ ob, (w1.alloc ob).cell? ⟨C, 0, none⟩ = some (.string ct) := fun ob => cell_blk ((Below.heap_alloc w1 ob C hl1).trans hcc) 0 _ rfl
  have q2a : ∀ ob, (w1.alloc ob).cell? ⟨C, 2, none⟩ = some (.int .i64 (k : Nat)) := fun ob => cell_blk ((Below.heap_alloc w1 ob C hl1).trans hcc) 2 _ rfl
  have hs01 : w.heap.size ≤ w1.heap.size := hf1.size
  have hall := hid (And.intro hC1 hf1)
  clear hC1 hf1 hcc
  go_wp2_with fail
  obtain ⟨W, hW⟩ : ∃ W, W = w1.alloc (.cells #[.pointer (some ⟨a.m, 0, none⟩), .bool o.image, .bool false] 253) := ⟨_, rfl⟩
  have hbW : Hid (Below w1.heap.size w1 W) := hid (by rw [hW]; exact (Below.refl _ _).alloc (Nat.le_refl _) _)
  have hsW : W.heap.size = w1.heap.size + 1 := by rw [hW]; simp
  have hxW : W.heap[w1.heap.size]? = some (.cells #[.pointer (some ⟨a.m, 0, none⟩), .bool o.image, .bool false] 253 (0, 0)) := by rw [hW]; exact alloc_new _ _
  have k0 : W.cell? ⟨C, 0, none⟩ = some (.string ct) := by rw [hW]; exact q0a _
  have k2 : W.cell? ⟨C, 2, none⟩ = some (.int .i64 (k : Nat)) := by rw [hW]; exact q2a _
  have hlW : C < W.heap.size := Nat.lt_of_lt_of_le hl1 hbW.out.size
  have hI0 : (0 : Int) ≤ (k : Int) + 1 := by omega
  have hI1 : (k : Int) + 1 ≤ (ct.size : Int) := by omega
  have hI2 : ((k : Int) + 1).toNat = k + 1 := by omega
  have hI3 : (k : Int) < (ct.size : Int) := by omega
  have hI4 : k < ct.size := by omega
  have hI5 : IntKind.i64.wrap ((k : Int) + 1) = (k : Int) + 1 := by rw [IntKind.wrap_i64]; omega
  obtain ⟨bx, hbx⟩ : ∃ bx, bx = w1.heap.size := ⟨_, rfl⟩
  rw [← hW, ← hbx]
  rw [← hbx] at hxW hsW
  have hbxH := hid hbx
  have hsWH := hid hsW
  clear hW q0a q2a hsW hbx
  go_region_held3 (fun w' => w'.cell? ⟨C, 0, none⟩ = some (.string ct) ∧ w'.cell? ⟨C, 2, none⟩ = some (.int .i64 (k : Nat)))
    ((refine ⟨?_, ?_⟩ <;> (first | assumption | with_reducible exact k0 | with_reducible exact k2)))
    ((go_at_call 237; refine (hAd.out W.drew).mono ?_; rintro e w2 ⟨r, rfl, hr, hb2⟩; have j0 := (hb2.cell (p := ⟨C, 0, none⟩) hlW).trans k0; have j2 := (hb2.cell (p := ⟨C, 2, none⟩) hlW).trans k2))
  have hb12 : Below w1.heap.size w1 w2 := hbW.out.trans ((Below.refl _ W).drew.trans hb2 |>.mono hbW.out.size)
  have hbx2 : w2.heap[bx]? = some (.cells #[.pointer (some ⟨a.m, 0, none⟩), .bool o.image, .bool false] 253 (0, 0)) := (hb2.block bx (by show bx < W.heap.size; have := hsWH.out; omega)).trans hxW
  have hrs : r.size = n := by rw [← S.length_data, hr.out]; exact hn
  have hrb : Hid (S.B t = r) := hid (by rw [← hr.out, S.B_data])
  have hSk := hid (skip_any C ct f k (3 + n) (P ++ a :: M) os sa sc A w2 (hall.out.1.below hb12) hkn)
  rw [show ((3 + n : Nat) : Int) = 3 + (n : Int) by omega] at hSk
  have hx2 : bx < w2.heap.size := (Array.getElem?_eq_some_iff.1 hbx2).1
  have hnbx : bx ∉ C :: blks (P ++ a :: M) := fun hm => by have := hbm.out bx hm; have := hbxH.out; omega
  have h12 := hid hb12
  clear hb2 hb12 k0 k2 j0 j2 hxW
  go_wp2_with fail
  refine hSk.out.mono ?_
  rintro e w3 ⟨m1, rfl, hm1, hC3, hf3⟩
  have hbx3 : w3.heap[bx]? = some (.cells #[.pointer (some ⟨a.m, 0, none⟩), .bool o.image, .bool false] 253 (0, 0)) := (hf3.block bx hx2 hnbx).trans hbx2
  have y0 : w3.cell? ⟨bx, 0, none⟩ = some (.pointer (some ⟨a.m, 0, none⟩)) := cell_blk hbx3 0 _ rfl
  obtain ⟨Q, hQ⟩ : ∃ Q, Q = M ++ skipMs ct f k m1 := ⟨_, rfl⟩
  have hms : (P ++ a :: M) ++ skipMs ct f k m1 = P ++ a :: Q := by rw [hQ]; simp
  rw [hms] at hC3
  have hnb3 : bx ∉ C :: blks (P ++ a :: Q) := fun hm => by
    rw [← hms, blks_append] at hm
    rcases List.mem_cons.1 hm with hm | hm
    · exact hnbx (by rw [hm]; exact List.mem_cons_self)
    · rcases List.mem_append.1 hm with hm | hm
      · exact hnbx (List.mem_cons_of_mem _ hm)
      · unfold skipMs at hm; split at hm <;> simp [blks] at hm; omega
  have hx3 : bx < w3.heap.size := (Array.getElem?_eq_some_iff.1 hbx3).1
  have hlt3 : Hid (∀ x ∈ C :: blks (P ++ a :: Q), x < w3.heap.size) := hid (fun x hx => by
    rcases List.mem_cons.1 hx with rfl | hx
    · exact hC3.lt
    · exact hC3.ch.mlt x hx)
  obtain ⟨W3, hW3⟩ : ∃ W3, W3 = w3.alloc (.cells #[.int .i64 0, .string ⟨#[]⟩, .string ⟨#[]⟩, .pointer none, .pointer none, .int .i64 0, .bool false, .bool false] 177) := ⟨_, rfl⟩
  have hn3 : w3.heap.size ∉ C :: blks (P ++ a :: Q) := fun hm => by have := hlt3.out _ hm; omega
  have hz3 : Hid (W3.heap[w3.heap.size]? = some (.cells #[.int .i64 0, .string ⟨#[]⟩, .string ⟨#[]⟩, .pointer none, .pointer none, .int .i64 0, .bool false, .bool false] 177 (0, 0)) ∧ W3.heap.size = w3.heap.size + 1 ∧ ∀ x, x < w3.heap.size → W3.heap[x]? = w3.heap[x]?) := hid (by rw [hW3]; exact ⟨alloc_new _ _, by simp, fun x hx => Below.heap_alloc _ _ _ hx⟩)
  have hTk0 : Hid (Calls Tryz.prog 238 #[.pointer (some ⟨C, 3, none⟩), .pointer (some ⟨a.m, 0, none⟩), .pointer none] w3.drew fun e w' => e = .returned (.agg #[.pointer (hd Q none), .pointer (lst Q none)]) ∧ Hid (Ch w' C 3 168 (cutCells ct (k + (3 + n)) (k + (3 + n)) (.slice sa os.length sc)) (P ++ [a]) ∧ Seg w' none Q none ∧ Fr (C :: blks (P ++ a :: Q)) w3 w') ∧ w'.cell? ⟨bx, 0, none⟩ = some (.pointer (some ⟨a.m, 0, none⟩)) ∧ ¬ w'.heap.size = bx) := hid ((take_rest C 168 (cutCells ct (k + (3 + n)) (k + (3 + n)) (.slice sa os.length sc)) P Q a w3.drew (hC3.ch.move (fun _ _ => rfl))).mono (fun e w' ⟨h1, h2, h3, h4⟩ => ⟨h1, hid ⟨h2, h3, ((Fr.refl _ w3).drew).trans h4 (fun x hx => .inl hx)⟩, (cell_same (h4.block bx hx3 hnb3) 0).trans y0, by have h5 : w3.heap.size ≤ w'.heap.size := h4.size; omega⟩))
  have hTk1 : Hid (Calls Tryz.prog 238 #[.pointer (some ⟨C, 3, none⟩), .pointer (some ⟨a.m, 0, none⟩), .pointer none] W3.drew fun e w' => e = .returned (.agg #[.pointer (hd Q none), .pointer (lst Q none)]) ∧ Hid (Ch w' C 3 168 (cutCells ct (k + (3 + n)) (k + (3 + n)) (.slice sa os.length sc)) (P ++ [a]) ∧ Seg w' none Q none ∧ Fr (C :: blks (P ++ a :: Q)) W3 w' ∧ w'.heap[w3.heap.size]? = some (.cells [.int .i64 0, .string ⟨#[]⟩, .string ⟨#[]⟩, .pointer none, .pointer none, .int .i64 0, .bool false, .bool false].toArray 177 (0, 0))) ∧ w'.cell? ⟨bx, 0, none⟩ = some (.pointer (some ⟨a.m, 0, none⟩)) ∧ (∀ i u, [(.int .i64 0 : Value), .string ⟨#[]⟩, .string ⟨#[]⟩, .pointer none, .pointer none, .int .i64 0, .bool false, .bool false][i]? = some u → w'.cell? ⟨w3.heap.size, i, none⟩ = some u) ∧ ∀ i, w'.frozen? ⟨w3.heap.size, i, none⟩ = false) := hid ((take_rest C 168 (cutCells ct (k + (3 + n)) (k + (3 + n)) (.slice sa os.length sc)) P Q a W3.drew (hC3.ch.move (fun x hx => hz3.out.2.2 x (hlt3.out x hx)))).mono (fun e w' ⟨h1, h2, h3, h4⟩ => by
    have hsz := hz3.out.2.1
    have hb := (h4.block w3.heap.size (by show w3.heap.size < W3.heap.size; omega) hn3).trans hz3.out.1
    exact ⟨h1, hid ⟨h2, h3, ((Fr.refl _ W3).drew).trans h4 (fun x hx => .inl hx), hb⟩, (cell_same ((h4.block bx (by show bx < W3.heap.size; omega) hnb3).trans (hz3.out.2.2 bx hx3)) 0).trans y0, fun i u hu => cell_blk hb i u (by simpa using hu), free_blk hb⟩))
  rw [hW3] at hTk1
  have h3 := hid (And.intro hC3 hf3)
  have hbx3H := hid hbx3
  have hQH := hid hQ
  have hn0 : ¬ w3.heap.size = bx := by omega
  have hn0' : ¬ bx = w3.heap.size := by omega
  clear hC3 hf3 hbx3 hQ hms hbx2
  go_wp2_with fail
  have yd : w3.drew.cell? ⟨bx, 0, none⟩ = some (.pointer (some ⟨a.m, 0, none⟩)) := y0
  go_region_held3 (fun w' => w'.cell? ⟨bx, 0, none⟩ = some (.pointer (some ⟨a.m, 0, none⟩)))
    ((first | with_reducible assumption | go_keep))
    (first | (go_at_call 238; with_reducible refine hTk0.out.mono ?_; rintro e w4 ⟨rfl, h4, j0, hn1⟩) | (go_at_call 238; with_reducible refine hTk1.out.mono ?_; rintro e w4 ⟨rfl, h4, j0, jc, jf⟩; have z0 := jc 0 _ rfl; have z1 := jc 1 _ rfl; have z2 := jc 2 _ rfl; have z3 := jc 3 _ rfl; have z4 := jc 4 _ rfl; have z5 := jc 5 _ rfl; have z6 := jc 6 _ rfl; have z7 := jc 7 _ rfl; clear jc))
  · obtain ⟨W4, hW4⟩ : ∃ W4, W4 = w4.alloc (.cells #[.int .i64 13, .string r, .string ⟨#[]⟩, .pointer (hd Q none), .pointer (lst Q none), .int .i64 0, .bool false, .bool false] 177) := ⟨_, rfl⟩
    obtain ⟨b, hb⟩ : ∃ b, b = w4.heap.size := ⟨_, rfl⟩
    have hz4 : w3.heap.size ≤ w4.heap.size := h4.out.2.2.size
    have hf4 : Fr (C :: blks (P ++ a :: Q)) w3 W4 := by rw [hW4]; exact h4.out.2.2.alloc _
    have hsame : ∀ x, x < w4.heap.size → W4.heap[x]? = w4.heap[x]? := fun x hx => by rw [hW4]; exact Below.heap_alloc _ _ _ hx
    have hMd : MadeR C b (k + (3 + n)) ct r P Q a os sa sc A W4 := made_of h3.out.1 hup.out (h4.out.1.move (fun x hx => hsame x (by rcases List.mem_cons.1 hx with rfl | hx; exact h4.out.1.lt; exact h4.out.1.mlt x hx))) (h4.out.2.1.move (fun e he => hsame e.m (h4.out.2.1.lt e he))) hf4 (by rw [hW4, hb]; exact alloc_new _ _) (by omega)
    have hbz : w3.heap.size ≤ b := by omega
    rw [← hW4, ← hb]
    have hMH := hid (And.intro hMd hf4)
    clear hW4 hb hMd hf4 hsame h4 j0 hn1 hz4
    have hSe := hid (settle_any b 3 177 (madeCells 13 r) Q A W4 hMH.out.1.ch hMH.out.1.kids hMH.out.1.dead hMH.out.1.txt hMH.out.1.runs)
    have hx4 : bx < W4.heap.size := Nat.lt_of_lt_of_le hx3 hMH.out.2.size
    have hbx4 : Hid (W4.heap[bx]? = some (.cells #[.pointer (some ⟨a.m, 0, none⟩), .bool o.image, .bool false] 253 (0, 0))) := hid ((hMH.out.2.block bx hx3 hnb3).trans hbx3H.out)
    have hnb4 : bx ∉ b :: blks Q := fun hm => by
      rcases List.mem_cons.1 hm with hm | hm
      · omega
      · exact hnb3 (by rw [show P ++ a :: Q = (P ++ [a]) ++ Q by simp, blks_append]; exact List.mem_cons_of_mem _ (List.mem_append_right _ hm))
    go_wp2_with fail
    refine hSe.out.mono ?_
    rintro e w5 ⟨l', A5, rfl, hS5⟩
    have hbx5 := (hS5.fr.block bx hx4 hnb4).trans hbx4.out
    have u0 : w5.cell? ⟨bx, 0, none⟩ = some (.pointer (some ⟨a.m, 0, none⟩)) := cell_blk hbx5 0 _ rfl
    have u1 : w5.cell? ⟨bx, 1, none⟩ = some (.bool o.image) := cell_blk hbx5 1 _ rfl
    have hC5 := hid (hMH.out.1.cut.frame hS5.fr hMH.out.1.sep)
    have hb5 : w5.heap[b]? = some (.cells [.int .i64 13, .string r, .string ⟨#[]⟩, .pointer (hd l' none), .pointer (lst l' none), .int .i64 0, .bool false, .bool false].toArray 177 (0, 0)) := hS5.ch.hdr.1
    have hS5H := hid hS5
    have hBel : Hid (Below C w w5) := hid (by
      have hB1 : Below C w w1 := hall.out.2.below (Nat.le_of_lt hcl) (by simp)
      have hB2 : Below C w1 w2 := h12.out.mono (Nat.le_of_lt hl1)
      have hB3 : Below C w2 w3 := (hall.out.1.below h12.out).frBelow h3.out.2
      have hB4 : Below C w3 W4 := h3.out.1.frBelow hMH.out.2
      have hB5 : Below C W4 w5 := hS5.fr.below (by have := hMH.out.1.cut.lt; omega) (fun x hx => by
        have h3l := h3.out.1.lt
        rcases List.mem_cons.1 hx with hx | hx
        · omega
        · exact Nat.le_of_lt (h3.out.1.above x (by rw [show P ++ a :: Q = (P ++ [a]) ++ Q by simp, blks_append]; exact List.mem_append_right _ hx)))
      exact (((hB1.trans hB2).trans hB3).trans hB4).trans hB5)
    have ha5 := ((seg_append _ _ _ _ _).1 hC5.out.ch.seg).2.cells
    clear hS5 hbx5
    by_cases hoi : o.image = true
    · rw [hoi] at u1
      have v0 : w5.cell? ⟨b, 0, none⟩ = some (.int .i64 13) := cell_blk hb5 0 _ rfl
      have v1 : w5.cell? ⟨b, 1, none⟩ = some (.string r) := cell_blk hb5 1 _ rfl
      have v2 : w5.cell? ⟨b, 2, none⟩ = some (.string ⟨#[]⟩) := cell_blk hb5 2 _ rfl
      have v3 : w5.cell? ⟨b, 3, none⟩ = some (.pointer (hd l' none)) := cell_blk hb5 3 _ rfl
      have v4 : w5.cell? ⟨b, 4, none⟩ = some (.pointer (lst l' none)) := cell_blk hb5 4 _ rfl
      have v5 : w5.cell? ⟨b, 5, none⟩ = some (.int .i64 0) := cell_blk hb5 5 _ rfl
      have v6 : w5.cell? ⟨b, 6, none⟩ = some (.bool false) := cell_blk hb5 6 _ rfl
      have v7 : w5.cell? ⟨b, 7, none⟩ = some (.bool false) := cell_blk hb5 7 _ rfl
      generalize hkf : hd l' none = kf at v3
      generalize hkl : lst l' none = kl at v4
      obtain ⟨e0, g0⟩ : ∃ e, w5.cell? ⟨a.m, 0, none⟩ = some e := ⟨_, cell_blk ha5 0 _ rfl⟩
      obtain ⟨e1, g1⟩ : ∃ e, w5.cell? ⟨a.m, 1, none⟩ = some e := ⟨_, cell_blk ha5 1 _ rfl⟩
      obtain ⟨e2, g2⟩ : ∃ e, w5.cell? ⟨a.m, 2, none⟩ = some e := ⟨_, cell_blk ha5 2 _ rfl⟩
      obtain ⟨e3, g3⟩ : ∃ e, w5.cell? ⟨a.m, 3, none⟩ = some e := ⟨_, cell_blk ha5 3 _ rfl⟩
      obtain ⟨e4, g4⟩ : ∃ e, w5.cell? ⟨a.m, 4, none⟩ = some e := ⟨_, cell_blk ha5 4 _ rfl⟩
      obtain ⟨e5, g5⟩ : ∃ e, w5.cell? ⟨a.m, 5, none⟩ = some e := ⟨_, cell_blk ha5 5 _ rfl⟩
      obtain ⟨e6, g6⟩ : ∃ e, w5.cell? ⟨a.m, 6, none⟩ = some e := ⟨_, cell_blk ha5 6 _ rfl⟩
      obtain ⟨e7, g7⟩ : ∃ e, w5.cell? ⟨a.m, 7, none⟩ = some e := ⟨_, cell_blk ha5 7 _ rfl⟩
      have gf := free_blk ha5
      have hb5H := hid hb5
      have ha5H := hid ha5
      clear hb5 ha5 hga hz hn hk hkn hoj hol hok hsm hdd hI0 hI1 hI2 hI3 hI4 hI5 hn0 hn0' hn3 hx3 hnb3 hx4 hnb4 hrs hnbx hx2 hm1 y0 yd hs01 hl1 hlW
      have hkfH := hid hkf
      have hklH := hid hkl
      clear hkf hkl
      go_wp2
      refine hRH.out _ _ ?_
      have hrb' := hrb.out
      have haC : C ≤ a.m := Nat.le_of_lt (hC5.out.above a.m (by simp [blks]))
      refine ⟨m1, (fun x => A x ∨ A5 x ∨ x ∈ blks l'), hd l' none, lst l' none, rfl, ?_, (((((((hBel.out.setCell haC _).setCell haC _).setCell haC _).setCell haC _).setCell haC _).setCell haC _).setCell haC _).setCell haC _⟩
      rw [hoi]
      have hfin := made_sealed (kd := 13) (t := t) hMH.out.1 hS5H.out hC5.out hup.out (Nat.le_refl _) (fun _ _ => rfl) (((((((((Fr.refl [a.m] w5).setCell ⟨a.m, 0, none⟩ (.inl (by simp)) (.int .i64 13)).setCell ⟨a.m, 1, none⟩ (.inl (by simp)) (.string r)).setCell ⟨a.m, 2, none⟩ (.inl (by simp)) (.string ⟨#[]⟩)).setCell ⟨a.m, 3, none⟩ (.inl (by simp)) (.pointer kf)).setCell ⟨a.m, 4, none⟩ (.inl (by simp)) (.pointer kl)).setCell ⟨a.m, 5, none⟩ (.inl (by simp)) (.int .i64 0)).setCell ⟨a.m, 6, none⟩ (.inl (by simp)) (.bool false)).setCell ⟨a.m, 7, none⟩ (.inl (by simp)) (.bool false)) (by
        have hb := set_blk (set_blk (set_blk (set_blk (set_blk (set_blk (set_blk (set_blk ha5H.out 0 (.int .i64 13)) 1 (.string r)) 2 (.string ⟨#[]⟩)) 3 (.pointer kf)) 4 (.pointer kl)) 5 (.int .i64 0)) 6 (.bool false)) 7 (.bool false)
        rw [← hrb', ← hkfH.out, ← hklH.out] at hb ⊢
        exact hb)
      rw [hQH.out] at hfin
      exact hfin
    · have hoi' : o.image = false := by simpa using hoi
      rw [hoi'] at u1
      have v0 : w5.cell? ⟨b, 0, none⟩ = some (.int .i64 13) := cell_blk hb5 0 _ rfl
      have vf := free_blk hb5
      obtain ⟨w5', hw5'⟩ : ∃ w5', w5' = w5.setCell ⟨b, 0, none⟩ (.int .i64 12) := ⟨_, rfl⟩
      have hfb : Fr [b] w5 w5' := by rw [hw5']; exact (Fr.refl _ _).setCell _ (.inl (by simp)) _
      have hb5' : w5'.heap[b]? = some (.cells [.int .i64 12, .string r, .string ⟨#[]⟩, .pointer (hd l' none), .pointer (lst l' none), .int .i64 0, .bool false, .bool false].toArray 177 (0, 0)) := by rw [hw5']; exact set_blk hb5 0 _
      have hsb := hMH.out.1.sep b List.mem_cons_self
      have hC5' := hC5.out.frame hfb (fun x hx => by simp at hx; subst hx; exact hsb)
      have hEa := hid (each_any C ct (k + (3 + n)) (k + (3 + n)) (P ++ [a]) os sa sc A w5' hC5' hol)
      have hown : ∀ x, x ∈ ownL sa → (Value.slice sa os.length sc).ownBlock = some x := fun x hx => by cases sa <;> simp [ownL] at hx; subst hx; rfl
      have hbl5 : b < w5.heap.size := (Array.getElem?_eq_some_iff.1 hb5).1
      have hz5 : W4.heap.size ≤ w5.heap.size := hS5H.out.fr.size
      have hbx5' : w5'.heap[bx]? = some (.cells #[.pointer (some ⟨a.m, 0, none⟩), .bool o.image, .bool false] 253 (0, 0)) := by
        rw [hfb.block bx (by omega) (by simp; omega), hS5H.out.fr.block bx hx4 hnb4]; exact hbx4.out
      have hbxo : bx ∉ ownL sa := fun hm => by
        have := ((hall.out.1.own.lt bx (hown bx hm))).2; have := hbxH.out; omega
      have hbo : b ∉ ownL sa := fun hm => hsb.2.2 (hown b hm).symm
      have hrest := hid (And.intro hfb (And.intro hb5' (And.intro hbx5' (And.intro hbxo (And.intro hbo (And.intro hbl5 hx4))))))
      have hupH := hup
      have hw5H := hid hw5'
      have hbzH := hid hbz
      clear hb5 ha5 hga hz hn hk hkn hoj hol hok hsm hdd hI0 hI1 hI2 hI3 hI4 hI5 hn0 hn0' hn3 hx3 hnb3 hx4 hnb4 hrs hnbx hx2 hm1 y0 yd hs01 hl1 hlW hfb hb5' hsb hC5' hown hbl5 hbx5' hbxo hbo hz5 hbz
      go_wp2_with fail
      rw [← hw5H.out]
      refine hEa.out.mono ?_
      rintro e w6 ⟨rfl, hC6, hf6⟩
      obtain ⟨hfb, hb5', hbx5', hbxo, hbo, hbl5, hx4⟩ := hrest.out
      have hz5' : w5.heap.size ≤ w5'.heap.size := hfb.size
      have hb6 := (hf6.block b (by omega) hbo).trans hb5'
      have hbx6 := (hf6.block bx (Array.getElem?_eq_some_iff.1 hbx5').1 hbxo).trans hbx5'
      have ha6 := ((seg_append _ _ _ _ _).1 hC6.ch.seg).2.cells
      have u0' : w6.cell? ⟨bx, 0, none⟩ = some (.pointer (some ⟨a.m, 0, none⟩)) := cell_blk hbx6 0 _ rfl
      have y0 : w6.cell? ⟨b, 0, none⟩ = some (.int .i64 12) := cell_blk hb6 0 _ rfl
      have y1 : w6.cell? ⟨b, 1, none⟩ = some (.string r) := cell_blk hb6 1 _ rfl
      have y2 : w6.cell? ⟨b, 2, none⟩ = some (.string ⟨#[]⟩) := cell_blk hb6 2 _ rfl
      have y3 : w6.cell? ⟨b, 3, none⟩ = some (.pointer (hd l' none)) := cell_blk hb6 3 _ rfl
      have y4 : w6.cell? ⟨b, 4, none⟩ = some (.pointer (lst l' none)) := cell_blk hb6 4 _ rfl
      have y5 : w6.cell? ⟨b, 5, none⟩ = some (.int .i64 0) := cell_blk hb6 5 _ rfl
      have y6 : w6.cell? ⟨b, 6, none⟩ = some (.bool false) := cell_blk hb6 6 _ rfl
      have y7 : w6.cell? ⟨b, 7, none⟩ = some (.bool false) := cell_blk hb6 7 _ rfl
      generalize hkf : hd l' none = kf at y3
      generalize hkl : lst l' none = kl at y4
      obtain ⟨e0, g0⟩ : ∃ e, w6.cell? ⟨a.m, 0, none⟩ = some e := ⟨_, cell_blk ha6 0 _ rfl⟩
      obtain ⟨e1, g1⟩ : ∃ e, w6.cell? ⟨a.m, 1, none⟩ = some e := ⟨_, cell_blk ha6 1 _ rfl⟩
      obtain ⟨e2, g2⟩ : ∃ e, w6.cell? ⟨a.m, 2, none⟩ = some e := ⟨_, cell_blk ha6 2 _ rfl⟩
      obtain ⟨e3, g3⟩ : ∃ e, w6.cell? ⟨a.m, 3, none⟩ = some e := ⟨_, cell_blk ha6 3 _ rfl⟩
      obtain ⟨e4, g4⟩ : ∃ e, w6.cell? ⟨a.m, 4, none⟩ = some e := ⟨_, cell_blk ha6 4 _ rfl⟩
      obtain ⟨e5, g5⟩ : ∃ e, w6.cell? ⟨a.m, 5, none⟩ = some e := ⟨_, cell_blk ha6 5 _ rfl⟩
      obtain ⟨e6, g6⟩ : ∃ e, w6.cell? ⟨a.m, 6, none⟩ = some e := ⟨_, cell_blk ha6 6 _ rfl⟩
      obtain ⟨e7, g7⟩ : ∃ e, w6.cell? ⟨a.m, 7, none⟩ = some e := ⟨_, cell_blk ha6 7 _ rfl⟩
      have gf := free_blk ha6
      have hkfH := hid hkf
      have hklH := hid hkl
      have h6 := hid (And.intro hC6 hf6)
      have ha6H := hid ha6
      clear hkf hkl hC6 hf6 hb6 hbx6 ha6 hfb hb5' hbx5' hbxo hbo hbl5 hx4 hz5' u0 u1 v0 vf
      go_wp2
      refine hRH.out _ _ ?_
      have hrb' := hrb.out
      obtain ⟨hfb, _, _, _, _, hbl5, _⟩ := hrest.out
      have haC : C ≤ a.m := Nat.le_of_lt (hC5.out.above a.m (by simp [blks]))
      have hbel6 : Below C w w6 := (hBel.out.trans (hfb.below (by have := hC5.out.lt; omega) (fun x hx => by simp at hx; subst hx; have := h3.out.1.lt; have := hbzH.out; omega))).trans (h6.out.2.below (by have := h6.out.1.lt; have := hC5.out.lt; have := hfb.size; omega) (fun x hx => by have := (h6.out.1.own.lt x (own_of hx)).1; omega))
      refine ⟨m1, (fun x => A x ∨ A5 x ∨ x ∈ blks l'), hd l' none, lst l' none, rfl, ?_, (((((((hbel6.setCell haC _).setCell haC _).setCell haC _).setCell haC _).setCell haC _).setCell haC _).setCell haC _).setCell haC _⟩
      rw [hoi']
      have hfin := made_sealed (kd := 12) (t := t) hMH.out.1 hS5H.out h6.out.1 (fun x hx => by obtain ⟨y, hy, rfl⟩ := List.mem_map.1 hx; exact hup.out y hy) (Nat.le_trans hfb.size h6.out.2.size) (made_keep hMH.out.1 hS5H.out hfb h6.out.2) (((((((((Fr.refl [a.m] w6).setCell ⟨a.m, 0, none⟩ (.inl (by simp)) (.int .i64 12)).setCell ⟨a.m, 1, none⟩ (.inl (by simp)) (.string r)).setCell ⟨a.m, 2, none⟩ (.inl (by simp)) (.string ⟨#[]⟩)).setCell ⟨a.m, 3, none⟩ (.inl (by simp)) (.pointer kf)).setCell ⟨a.m, 4, none⟩ (.inl (by simp)) (.pointer kl)).setCell ⟨a.m, 5, none⟩ (.inl (by simp)) (.int .i64 0)).setCell ⟨a.m, 6, none⟩ (.inl (by simp)) (.bool false)).setCell ⟨a.m, 7, none⟩ (.inl (by simp)) (.bool false)) (by
        have hb := set_blk (set_blk (set_blk (set_blk (set_blk (set_blk (set_blk (set_blk ha6H.out 0 (.int .i64 12)) 1 (.string r)) 2 (.string ⟨#[]⟩)) 3 (.pointer kf)) 4 (.pointer kl)) 5 (.int .i64 0)) 6 (.bool false)) 7 (.bool false)
        rw [← hrb', ← hkfH.out, ← hklH.out] at hb ⊢
        exact hb)
      rw [hQH.out] at hfin
      exact hfin
  · obtain ⟨W4, hW4⟩ : ∃ W4, W4 = ((((((((w4.setCell ⟨w3.heap.size, 0, none⟩ (.int .i64 13)).setCell ⟨w3.heap.size, 1, none⟩ (.string r)).setCell ⟨w3.heap.size, 2, none⟩ (.string ⟨#[]⟩)).setCell ⟨w3.heap.size, 3, none⟩ (.pointer (hd Q none))).setCell ⟨w3.heap.size, 4, none⟩ (.pointer (lst Q none))).setCell ⟨w3.heap.size, 5, none⟩ (.int .i64 0)).setCell ⟨w3.heap.size, 6, none⟩ (.bool false)).setCell ⟨w3.heap.size, 7, none⟩ (.bool false)) := ⟨_, rfl⟩
    obtain ⟨b, hb⟩ : ∃ b, b = w3.heap.size := ⟨_, rfl⟩
    have hf34 : Fr (C :: blks (P ++ a :: Q)) w3 w4 := ((Fr.refl _ w3).alloc _).trans h4.out.2.2.1 (fun x hx => .inl hx)
    have hf4 : Fr (C :: blks (P ++ a :: Q)) w3 W4 := by rw [hW4]; exact (((((((hf34.setCell _ (.inr (Nat.le_refl _)) _).setCell _ (.inr (Nat.le_refl _)) _).setCell _ (.inr (Nat.le_refl _)) _).setCell _ (.inr (Nat.le_refl _)) _).setCell _ (.inr (Nat.le_refl _)) _).setCell _ (.inr (Nat.le_refl _)) _).setCell _ (.inr (Nat.le_refl _)) _).setCell _ (.inr (Nat.le_refl _)) _
    have hsame : ∀ x, x < w3.heap.size → W4.heap[x]? = w4.heap[x]? := fun x hx => by
      have hne : x ≠ w3.heap.size := by omega
      rw [hW4, Below.heap_setCell _ _ _ _ hne, Below.heap_setCell _ _ _ _ hne, Below.heap_setCell _ _ _ _ hne, Below.heap_setCell _ _ _ _ hne, Below.heap_setCell _ _ _ _ hne, Below.heap_setCell _ _ _ _ hne, Below.heap_setCell _ _ _ _ hne, Below.heap_setCell _ _ _ _ hne]
    have hsub : ∀ x ∈ C :: blks (P ++ [a]), x < w3.heap.size := fun x hx => hlt3.out x (by
      rcases List.mem_cons.1 hx with rfl | hx
      · exact List.mem_cons_self
      · rw [show P ++ a :: Q = (P ++ [a]) ++ Q by simp, blks_append]; exact List.mem_cons_of_mem _ (List.mem_append_left _ hx))
    have hMd : MadeR C b (k + (3 + n)) ct r P Q a os sa sc A W4 := made_of h3.out.1 hup.out (h4.out.1.move (fun x hx => hsame x (hsub x hx))) (h4.out.2.1.move (fun e he => hsame e.m (hlt3.out e.m (by rw [show P ++ a :: Q = (P ++ [a]) ++ Q by simp, blks_append]; exact List.mem_cons_of_mem _ (List.mem_append_right _ (List.mem_map_of_mem he)))))) hf4 (by
      rw [hW4, hb]
      exact set_blk (set_blk (set_blk (set_blk (set_blk (set_blk (set_blk (set_blk h4.out.2.2.2 0 _) 1 _) 2 _) 3 _) 4 _) 5 _) 6 _) 7 _) (by omega)
    have hbz : w3.heap.size ≤ b := by omega
    rw [← hW4, ← hb]
    have hMH := hid (And.intro hMd hf4)
    clear hW4 hMd hf4 hsame h4 j0 hf34 hsub z0 z1 z2 z3 z4 z5 z6 z7 jf hb
    have hSe := hid (settle_any b 3 177 (madeCells 13 r) Q A W4 hMH.out.1.ch hMH.out.1.kids hMH.out.1.dead hMH.out.1.txt hMH.out.1.runs)
    have hx4 : bx < W4.heap.size := Nat.lt_of_lt_of_le hx3 hMH.out.2.size
    have hbx4 : Hid (W4.heap[bx]? = some (.cells #[.pointer (some ⟨a.m, 0, none⟩), .bool o.image, .bool false] 253 (0, 0))) := hid ((hMH.out.2.block bx hx3 hnb3).trans hbx3H.out)
    have hnb4 : bx ∉ b :: blks Q := fun hm => by
      rcases List.mem_cons.1 hm with hm | hm
      · omega
      · exact hnb3 (by rw [show P ++ a :: Q = (P ++ [a]) ++ Q by simp, blks_append]; exact List.mem_cons_of_mem _ (List.mem_append_right _ hm))
    go_wp2_with fail
    refine hSe.out.mono ?_
    rintro e w5 ⟨l', A5, rfl, hS5⟩
    have hbx5 := (hS5.fr.block bx hx4 hnb4).trans hbx4.out
    have u0 : w5.cell? ⟨bx, 0, none⟩ = some (.pointer (some ⟨a.m, 0, none⟩)) := cell_blk hbx5 0 _ rfl
    have u1 : w5.cell? ⟨bx, 1, none⟩ = some (.bool o.image) := cell_blk hbx5 1 _ rfl
    have hC5 := hid (hMH.out.1.cut.frame hS5.fr hMH.out.1.sep)
    have hb5 : w5.heap[b]? = some (.cells [.int .i64 13, .string r, .string ⟨#[]⟩, .pointer (hd l' none), .pointer (lst l' none), .int .i64 0, .bool false, .bool false].toArray 177 (0, 0)) := hS5.ch.hdr.1
    have hS5H := hid hS5
    have hBel : Hid (Below C w w5) := hid (by
      have hB1 : Below C w w1 := hall.out.2.below (Nat.le_of_lt hcl) (by simp)
      have hB2 : Below C w1 w2 := h12.out.mono (Nat.le_of_lt hl1)
      have hB3 : Below C w2 w3 := (hall.out.1.below h12.out).frBelow h3.out.2
      have hB4 : Below C w3 W4 := h3.out.1.frBelow hMH.out.2
      have hB5 : Below C W4 w5 := hS5.fr.below (by have := hMH.out.1.cut.lt; omega) (fun x hx => by
        have h3l := h3.out.1.lt
        rcases List.mem_cons.1 hx with hx | hx
        · omega
        · exact Nat.le_of_lt (h3.out.1.above x (by rw [show P ++ a :: Q = (P ++ [a]) ++ Q by simp, blks_append]; exact List.mem_append_right _ hx)))
      exact (((hB1.trans hB2).trans hB3).trans hB4).trans hB5)
    have ha5 := ((seg_append _ _ _ _ _).1 hC5.out.ch.seg).2.cells
    clear hS5 hbx5
    by_cases hoi : o.image = true
    · rw [hoi] at u1
      have v0 : w5.cell? ⟨b, 0, none⟩ = some (.int .i64 13) := cell_blk hb5 0 _ rfl
      have v1 : w5.cell? ⟨b, 1, none⟩ = some (.string r) := cell_blk hb5 1 _ rfl
      have v2 : w5.cell? ⟨b, 2, none⟩ = some (.string ⟨#[]⟩) := cell_blk hb5 2 _ rfl
      have v3 : w5.cell? ⟨b, 3, none⟩ = some (.pointer (hd l' none)) := cell_blk hb5 3 _ rfl
      have v4 : w5.cell? ⟨b, 4, none⟩ = some (.pointer (lst l' none)) := cell_blk hb5 4 _ rfl
      have v5 : w5.cell? ⟨b, 5, none⟩ = some (.int .i64 0) := cell_blk hb5 5 _ rfl
      have v6 : w5.cell? ⟨b, 6, none⟩ = some (.bool false) := cell_blk hb5 6 _ rfl
      have v7 : w5.cell? ⟨b, 7, none⟩ = some (.bool false) := cell_blk hb5 7 _ rfl
      generalize hkf : hd l' none = kf at v3
      generalize hkl : lst l' none = kl at v4
      obtain ⟨e0, g0⟩ : ∃ e, w5.cell? ⟨a.m, 0, none⟩ = some e := ⟨_, cell_blk ha5 0 _ rfl⟩
      obtain ⟨e1, g1⟩ : ∃ e, w5.cell? ⟨a.m, 1, none⟩ = some e := ⟨_, cell_blk ha5 1 _ rfl⟩
      obtain ⟨e2, g2⟩ : ∃ e, w5.cell? ⟨a.m, 2, none⟩ = some e := ⟨_, cell_blk ha5 2 _ rfl⟩
      obtain ⟨e3, g3⟩ : ∃ e, w5.cell? ⟨a.m, 3, none⟩ = some e := ⟨_, cell_blk ha5 3 _ rfl⟩
      obtain ⟨e4, g4⟩ : ∃ e, w5.cell? ⟨a.m, 4, none⟩ = some e := ⟨_, cell_blk ha5 4 _ rfl⟩
      obtain ⟨e5, g5⟩ : ∃ e, w5.cell? ⟨a.m, 5, none⟩ = some e := ⟨_, cell_blk ha5 5 _ rfl⟩
      obtain ⟨e6, g6⟩ : ∃ e, w5.cell? ⟨a.m, 6, none⟩ = some e := ⟨_, cell_blk ha5 6 _ rfl⟩
      obtain ⟨e7, g7⟩ : ∃ e, w5.cell? ⟨a.m, 7, none⟩ = some e := ⟨_, cell_blk ha5 7 _ rfl⟩
      have gf := free_blk ha5
      have hb5H := hid hb5
      have ha5H := hid ha5
      clear hb5 ha5 hga hz hn hk hkn hoj hol hok hsm hdd hI0 hI1 hI2 hI3 hI4 hI5 hn0 hn0' hn3 hx3 hnb3 hx4 hnb4 hrs hnbx hx2 hm1 y0 yd hs01 hl1 hlW
      have hkfH := hid hkf
      have hklH := hid hkl
      clear hkf hkl
      go_wp2
      refine hRH.out _ _ ?_
      have hrb' := hrb.out
      have haC : C ≤ a.m := Nat.le_of_lt (hC5.out.above a.m (by simp [blks]))
      refine ⟨m1, (fun x => A x ∨ A5 x ∨ x ∈ blks l'), hd l' none, lst l' none, rfl, ?_, (((((((hBel.out.setCell haC _).setCell haC _).setCell haC _).setCell haC _).setCell haC _).setCell haC _).setCell haC _).setCell haC _⟩
      rw [hoi]
      have hfin := made_sealed (kd := 13) (t := t) hMH.out.1 hS5H.out hC5.out hup.out (Nat.le_refl _) (fun _ _ => rfl) (((((((((Fr.refl [a.m] w5).setCell ⟨a.m, 0, none⟩ (.inl (by simp)) (.int .i64 13)).setCell ⟨a.m, 1, none⟩ (.inl (by simp)) (.string r)).setCell ⟨a.m, 2, none⟩ (.inl (by simp)) (.string ⟨#[]⟩)).setCell ⟨a.m, 3, none⟩ (.inl (by simp)) (.pointer kf)).setCell ⟨a.m, 4, none⟩ (.inl (by simp)) (.pointer kl)).setCell ⟨a.m, 5, none⟩ (.inl (by simp)) (.int .i64 0)).setCell ⟨a.m, 6, none⟩ (.inl (by simp)) (.bool false)).setCell ⟨a.m, 7, none⟩ (.inl (by simp)) (.bool false)) (by
        have hb := set_blk (set_blk (set_blk (set_blk (set_blk (set_blk (set_blk (set_blk ha5H.out 0 (.int .i64 13)) 1 (.string r)) 2 (.string ⟨#[]⟩)) 3 (.pointer kf)) 4 (.pointer kl)) 5 (.int .i64 0)) 6 (.bool false)) 7 (.bool false)
        rw [← hrb', ← hkfH.out, ← hklH.out] at hb ⊢
        exact hb)
      rw [hQH.out] at hfin
      exact hfin
    · have hoi' : o.image = false := by simpa using hoi
      rw [hoi'] at u1
      have v0 : w5.cell? ⟨b, 0, none⟩ = some (.int .i64 13) := cell_blk hb5 0 _ rfl
      have vf := free_blk hb5
      obtain ⟨w5', hw5'⟩ : ∃ w5', w5' = w5.setCell ⟨b, 0, none⟩ (.int .i64 12) := ⟨_, rfl⟩
      have hfb : Fr [b] w5 w5' := by rw [hw5']; exact (Fr.refl _ _).setCell _ (.inl (by simp)) _
      have hb5' : w5'.heap[b]? = some (.cells [.int .i64 12, .string r, .string ⟨#[]⟩, .pointer (hd l' none), .pointer (lst l' none), .int .i64 0, .bool false, .bool false].toArray 177 (0, 0)) := by rw [hw5']; exact set_blk hb5 0 _
      have hsb := hMH.out.1.sep b List.mem_cons_self
      have hC5' := hC5.out.frame hfb (fun x hx => by simp at hx; subst hx; exact hsb)
      have hEa := hid (each_any C ct (k + (3 + n)) (k + (3 + n)) (P ++ [a]) os sa sc A w5' hC5' hol)
      have hown : ∀ x, x ∈ ownL sa → (Value.slice sa os.length sc).ownBlock = some x := fun x hx => by cases sa <;> simp [ownL] at hx; subst hx; rfl
      have hbl5 : b < w5.heap.size := (Array.getElem?_eq_some_iff.1 hb5).1
      have hz5 : W4.heap.size ≤ w5.heap.size := hS5H.out.fr.size
      have hbx5' : w5'.heap[bx]? = some (.cells #[.pointer (some ⟨a.m, 0, none⟩), .bool o.image, .bool false] 253 (0, 0)) := by
        rw [hfb.block bx (by omega) (by simp; omega), hS5H.out.fr.block bx hx4 hnb4]; exact hbx4.out
      have hbxo : bx ∉ ownL sa := fun hm => by
        have := ((hall.out.1.own.lt bx (hown bx hm))).2; have := hbxH.out; omega
      have hbo : b ∉ ownL sa := fun hm => hsb.2.2 (hown b hm).symm
      have hrest := hid (And.intro hfb (And.intro hb5' (And.intro hbx5' (And.intro hbxo (And.intro hbo (And.intro hbl5 hx4))))))
      have hupH := hup
      have hw5H := hid hw5'
      have hbzH := hid hbz
      clear hb5 ha5 hga hz hn hk hkn hoj hol hok hsm hdd hI0 hI1 hI2 hI3 hI4 hI5 hn0 hn0' hn3 hx3 hnb3 hx4 hnb4 hrs hnbx hx2 hm1 y0 yd hs01 hl1 hlW hfb hb5' hsb hC5' hown hbl5 hbx5' hbxo hbo hz5 hbz
      go_wp2_with fail
      rw [← hw5H.out]
      refine hEa.out.mono ?_
      rintro e w6 ⟨rfl, hC6, hf6⟩
      obtain ⟨hfb, hb5', hbx5', hbxo, hbo, hbl5, hx4⟩ := hrest.out
      have hz5' : w5.heap.size ≤ w5'.heap.size := hfb.size
      have hb6 := (hf6.block b (by omega) hbo).trans hb5'
      have hbx6 := (hf6.block bx (Array.getElem?_eq_some_iff.1 hbx5').1 hbxo).trans hbx5'
      have ha6 := ((seg_append _ _ _ _ _).1 hC6.ch.seg).2.cells
      have u0' : w6.cell? ⟨bx, 0, none⟩ = some (.pointer (some ⟨a.m, 0, none⟩)) := cell_blk hbx6 0 _ rfl
      have y0 : w6.cell? ⟨b, 0, none⟩ = some (.int .i64 12) := cell_blk hb6 0 _ rfl
      have y1 : w6.cell? ⟨b, 1, none⟩ = some (.string r) := cell_blk hb6 1 _ rfl
      have y2 : w6.cell? ⟨b, 2, none⟩ = some (.string ⟨#[]⟩) := cell_blk hb6 2 _ rfl
      have y3 : w6.cell? ⟨b, 3, none⟩ = some (.pointer (hd l' none)) := cell_blk hb6 3 _ rfl
      have y4 : w6.cell? ⟨b, 4, none⟩ = some (.pointer (lst l' none)) := cell_blk hb6 4 _ rfl
      have y5 : w6.cell? ⟨b, 5, none⟩ = some (.int .i64 0) := cell_blk hb6 5 _ rfl
      have y6 : w6.cell? ⟨b, 6, none⟩ = some (.bool false) := cell_blk hb6 6 _ rfl
      have y7 : w6.cell? ⟨b, 7, none⟩ = some (.bool false) := cell_blk hb6 7 _ rfl
      generalize hkf : hd l' none = kf at y3
      generalize hkl : lst l' none = kl at y4
      obtain ⟨e0, g0⟩ : ∃ e, w6.cell? ⟨a.m, 0, none⟩ = some e := ⟨_, cell_blk ha6 0 _ rfl⟩
      obtain ⟨e1, g1⟩ : ∃ e, w6.cell? ⟨a.m, 1, none⟩ = some e := ⟨_, cell_blk ha6 1 _ rfl⟩
      obtain ⟨e2, g2⟩ : ∃ e, w6.cell? ⟨a.m, 2, none⟩ = some e := ⟨_, cell_blk ha6 2 _ rfl⟩
      obtain ⟨e3, g3⟩ : ∃ e, w6.cell? ⟨a.m, 3, none⟩ = some e := ⟨_, cell_blk ha6 3 _ rfl⟩
      obtain ⟨e4, g4⟩ : ∃ e, w6.cell? ⟨a.m, 4, none⟩ = some e := ⟨_, cell_blk ha6 4 _ rfl⟩
      obtain ⟨e5, g5⟩ : ∃ e, w6.cell? ⟨a.m, 5, none⟩ = some e := ⟨_, cell_blk ha6 5 _ rfl⟩
      obtain ⟨e6, g6⟩ : ∃ e, w6.cell? ⟨a.m, 6, none⟩ = some e := ⟨_, cell_blk ha6 6 _ rfl⟩
      obtain ⟨e7, g7⟩ : ∃ e, w6.cell? ⟨a.m, 7, none⟩ = some e := ⟨_, cell_blk ha6 7 _ rfl⟩
      have gf := free_blk ha6
      have hkfH := hid hkf
      have hklH := hid hkl
      have h6 := hid (And.intro hC6 hf6)
      have ha6H := hid ha6
      clear hkf hkl hC6 hf6 hb6 hbx6 ha6 hfb hb5' hbx5' hbxo hbo hbl5 hx4 hz5' u0 u1 v0 vf
      go_wp2
      refine hRH.out _ _ ?_
      have hrb' := hrb.out
      obtain ⟨hfb, _, _, _, _, hbl5, _⟩ := hrest.out
      have haC : C ≤ a.m := Nat.le_of_lt (hC5.out.above a.m (by simp [blks]))
      have hbel6 : Below C w w6 := (hBel.out.trans (hfb.below (by have := hC5.out.lt; omega) (fun x hx => by simp at hx; subst hx; have := h3.out.1.lt; have := hbzH.out; omega))).trans (h6.out.2.below (by have := h6.out.1.lt; have := hC5.out.lt; have := hfb.size; omega) (fun x hx => by have := (h6.out.1.own.lt x (own_of hx)).1; omega))
      refine ⟨m1, (fun x => A x ∨ A5 x ∨ x ∈ blks l'), hd l' none, lst l' none, rfl, ?_, (((((((hbel6.setCell haC _).setCell haC _).setCell haC _).setCell haC _).setCell haC _).setCell haC _).setCell haC _).setCell haC _⟩
      rw [hoi']
      have hfin := made_sealed (kd := 12) (t := t) hMH.out.1 hS5H.out h6.out.1 (fun x hx => by obtain ⟨y, hy, rfl⟩ := List.mem_map.1 hx; exact hup.out y hy) (Nat.le_trans hfb.size h6.out.2.size) (made_keep hMH.out.1 hS5H.out hfb h6.out.2) (((((((((Fr.refl [a.m] w6).setCell ⟨a.m, 0, none⟩ (.inl (by simp)) (.int .i64 12)).setCell ⟨a.m, 1, none⟩ (.inl (by simp)) (.string r)).setCell ⟨a.m, 2, none⟩ (.inl (by simp)) (.string ⟨#[]⟩)).setCell ⟨a.m, 3, none⟩ (.inl (by simp)) (.pointer kf)).setCell ⟨a.m, 4, none⟩ (.inl (by simp)) (.pointer kl)).setCell ⟨a.m, 5, none⟩ (.inl (by simp)) (.int .i64 0)).setCell ⟨a.m, 6, none⟩ (.inl (by simp)) (.bool false)).setCell ⟨a.m, 7, none⟩ (.inl (by simp)) (.bool false)) (by
        have hb := set_blk (set_blk (set_blk (set_blk (set_blk (set_blk (set_blk (set_blk ha6H.out 0 (.int .i64 12)) 1 (.string r)) 2 (.string ⟨#[]⟩)) 3 (.pointer kf)) 4 (.pointer kl)) 5 (.int .i64 0)) 6 (.bool false)) 7 (.bool false)
        rw [← hrb', ← hkfH.out, ← hklH.out] at hb ⊢
        exact hb)
      rw [hQH.out] at hfin
      exact hfin
end Go.Proofs.YtlojgpkajkedeaaGreatDoor
