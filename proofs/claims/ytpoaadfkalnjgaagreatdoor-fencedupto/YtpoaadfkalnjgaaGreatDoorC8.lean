import Derived.Test.YtpoaadfkalnjgaaGreatDoorC7
import Derived.Test.YtpoaadfkalnjgaaGreatDoorW17
import Derived.Test.YtpoaadfkalnjgaaGreatDoorW18
namespace Go.Proofs.YtpoaadfkalnjgaaGreatDoor
open Go.RowKit

theorem rowOK_all (d : Nat) : RowOK d := by
  induction d with
  | zero => intro b o cap ss w _ _ _ _ hd; omega
  | succ d ih => exact readRow_any d ih (readList_any d ih)

set_option maxHeartbeats 1000000 in
theorem clone_any (s : ByteArray) (w : World) (hs : s.size ≤ 281474976710656) :
    Calls Tryz.prog 27 #[.string s] w fun e w' => e = .returned (.string s) ∧ Below w.heap.size w w' := by
  have hC := hid (Tryz.stringslite_Clone s w hs)
  go_enter Tryz.func27, Tryz.ntmps27
  go_wp2_with fail
  refine hC.out.mono ?_
  rintro e w' ⟨rfl, hb⟩
  have hbH := hid hb
  clear hb
  go_wp2
  go_ret
  exact ⟨rfl, hbH.out⟩

set_option maxHeartbeats 2000000 in
theorem tree_any (P : List UInt8 → Prop) (cont : List UInt8 → Nat → List Nd) (hc : ∀ c, P c → ContOK c (cont c)) (s : ByteArray) (w : World) (hs : s.size ≤ 1500) (henv : Env w) (ts : List S.Blk) (hts : (S.readRow (s.size + 1) (S.lines s.data.toList)).1 = ts) (hg : goodL P 0 ts) (hl : (flatL cont 0 ts).length ≤ 1000000) :
    Calls Tryz.prog 10 #[.string s] w fun e w' => ∃ B a cp, e = .returned (.tuple #[.slice a (flatL cont 0 ts).length cp, .int .i64 0]) ∧ w.heap.size ≤ B ∧ OwnsN B a cp (flatL cont 0 ts) w' ∧ Below w.heap.size w w' := by
  have hC := hid (clone_any s w (by omega))
  have hRd : Hid (∀ w1, Below w.heap.size w w1 → Calls Tryz.prog 26 #[.string s] w1 fun e w' => ∃ v, e = .returned v ∧ Rep w' (fun x => w1.heap.size ≤ x ∧ x < w'.heap.size) v ts ∧ Below w1.heap.size w1 w') := hid (fun w1 hb => by
    have := read_any rowOK_all s w1 (by omega) (henv.below hb)
    rw [hts] at this; exact this)
  have hgH := hid hg
  have hlH := hid hl
  have hcH := hid hc
  have hs2 : ¬ (1500 : Int) < (s.size : Int) := by omega
  clear hg hl hc hts henv
  go_enter Tryz.func10, Tryz.ntmps10
  go_wp2_with fail
  refine hC.out.mono ?_
  rintro e w1 ⟨rfl, hb1⟩
  have hRd1 := hid (hRd.out w1 hb1)
  have hb1H := hid hb1
  have hz1 : w.heap.size ≤ w1.heap.size := hb1.size
  clear hb1
  go_wp2_with fail
  refine hRd1.out.mono ?_
  rintro e w2 ⟨v, rfl, hrep, hb2⟩
  obtain ⟨ka, kn, kc, rfl⟩ := hrep.form
  have hz2 : w1.heap.size ≤ w2.heap.size := hb2.size
  have hAB := appendBlocks_any P cont hcH.out w2.heap.size w2 _ (fun x hx => hx.2) _ ts hrep w2 none 0 [] 0 (Below.refl _ _) (Nat.le_refl _) (OwnsN.nil _ _) (by simpa using hlH.out) hgH.out
  rw [List.nil_append] at hAB
  have hABH := hid hAB
  have hb2H := hid hb2
  clear hrep hb2 hAB
  go_wp2_with fail
  refine hABH.out.mono ?_
  rintro e w3 ⟨a, cp, rfl, hown, hgr, hat⟩
  have hownH := hid hown
  have hb3 : Below w2.heap.size w2 w3 := Below.grown (Below.refl _ _) hgr (Nat.le_refl _) (fun g hg => by simp [Value.ownBlock] at hg)
  have hb3H := hid hb3
  clear hown hgr hat hb3
  go_wp2
  go_ret2
  exact ⟨w2.heap.size, a, cp, rfl, by omega, hownH.out, hb1H.out.trans ((hb2H.out.mono hz1).trans (hb3H.out.mono (by omega)))⟩

end Go.Proofs.YtpoaadfkalnjgaaGreatDoor
