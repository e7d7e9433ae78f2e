/- Contents that are evaluated: the document's examples. -/
import Derived.Test.YtlojgpkajkedeaaGreatDoorQN
namespace Go.Proofs.YtlojgpkajkedeaaGreatDoor
open Go.RowKit

/-- The automaton, with a bound on its turns. -/
def fin (ct : ByteArray) : Nat → St → Option (List Pt)
  | 0, s => if s.k = ct.size then some (s.skip ct 0).ps else none
  | n + 1, s => if s.k = ct.size then some (s.skip ct 0).ps else if s.k < ct.size then fin ct n (step ct s) else none
theorem fin_ends (ct : ByteArray) (n : Nat) (s : St) (r : List Pt) (h : fin ct n s = some r) : Ends ct s r := by
  induction n generalizing s with
  | zero =>
    unfold fin at h
    split at h
    · rename_i hk; cases h; exact .done s hk
    · cases h
  | succ n ih =>
    unfold fin at h
    split at h
    · rename_i hk; cases h; exact .done s hk
    · split at h
      · rename_i hk; exact .go s r hk (ih _ h)
      · cases h
theorem cont_fin (c : List UInt8) (n : Nat) (h : (fin (S.B c) n start0).isSome = true) : contT c = settleT ((fin (S.B c) n start0).getD []) := by
  cases hf : fin (S.B c) n start0 with
  | none => rw [hf] at h; simp at h
  | some r => exact contT_eq c r (fin_ends _ _ _ _ hf)

def read1 : List UInt8 := [42, 42, 42, 97, 42, 42, 42]
def read2 : List UInt8 := [91, 97, 32, 91, 98, 93, 40, 99, 41, 32, 100, 93, 40, 101, 41]
theorem read1_row : (S.readRow (read1.length + 1) (S.lines read1)).1 = [.mk 1 0 [] read1 false []] := by kernel_rfl
theorem read2_row : (S.readRow (read2.length + 1) (S.lines read2)).1 = [.mk 1 0 [] read2 false []] := by kernel_rfl
theorem read1_nodes : nodesOf read1 = [⟨0, 1, 0, ⟨#[]⟩, ⟨#[]⟩⟩, ⟨1, 14, 0, ⟨#[]⟩, ⟨#[]⟩⟩, ⟨2, 15, 0, ⟨#[]⟩, ⟨#[]⟩⟩, ⟨3, 8, 0, ⟨#[]⟩, ⟨#[97]⟩⟩] := by
  unfold nodesOf
  rw [read1_row]
  simp only [flatL, flatB, contN]
  rw [cont_fin read1 10 (by kernel_rfl)]
  kernel_rfl
theorem read2_nodes : nodesOf read2 = [⟨0, 1, 0, ⟨#[]⟩, ⟨#[]⟩⟩, ⟨1, 8, 0, ⟨#[]⟩, ⟨#[91, 97, 32]⟩⟩, ⟨1, 12, 0, ⟨#[99]⟩, ⟨#[]⟩⟩, ⟨2, 8, 0, ⟨#[]⟩, ⟨#[98]⟩⟩, ⟨1, 8, 0, ⟨#[]⟩, ⟨#[32, 100, 93, 40, 101, 41]⟩⟩] := by
  unfold nodesOf
  rw [read2_row]
  simp only [flatL, flatB, contN]
  rw [cont_fin read2 20 (by kernel_rfl)]
  kernel_rfl
end Go.Proofs.YtlojgpkajkedeaaGreatDoor
