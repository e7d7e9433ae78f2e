/- Escaped texts: their nodes. -/
import Derived.Test.YtlojgpkajkedeaaGreatDoorXB
namespace Go.Proofs.YtlojgpkajkedeaaGreatDoor
open Go.RowKit

def escT (cs : List UInt8) : List UInt8 := S.esc cs ++ [97]
def escS (cs : List UInt8) : List UInt8 := cs ++ [97]
def starT (cs : List UInt8) : List UInt8 := [42, 42] ++ escT cs ++ [42, 42, 32, 98]
def escQ (cs : List UInt8) : List UInt8 := S.quoted ([42, 32] ++ starT cs)

theorem esc_no10 (cs : List UInt8) (hs : ∀ b ∈ cs, S.Sign b) : 10 ∉ escT cs := fun h => (S.esc_signs cs hs 10 h).1 rfl
theorem esc_nodes1 (cs : List UInt8) (hs : ∀ b ∈ cs, S.Sign b) : nodesOf (escT cs) = [⟨0, 1, 0, ⟨#[]⟩, ⟨#[]⟩⟩, ⟨1, 8, 0, ⟨#[]⟩, S.B (escS cs)⟩] := by
  unfold nodesOf
  rw [S.lines_whole (escT cs) (esc_no10 cs hs) (by simp [escT]), show [escT cs] = [S.esc cs ++ [97]] from rfl, S.esc_row cs hs]
  simp only [flatL, flatB, contN]
  rw [if_pos (by simp), esc_cont cs hs]
  rfl
theorem esc_nodes2 (cs : List UInt8) (hs : ∀ b ∈ cs, S.Sign b) : nodesOf (35 :: 32 :: escT cs) = [⟨0, 2, 1, ⟨#[]⟩, ⟨#[]⟩⟩, ⟨1, 8, 0, ⟨#[]⟩, S.B (escS cs)⟩] := by
  unfold nodesOf
  rw [S.lines_whole (35 :: 32 :: escT cs) (by have := esc_no10 cs hs; simp [this]) (by simp), show [35 :: 32 :: escT cs] = [35 :: 32 :: (S.esc cs ++ [97])] from rfl, S.title_row cs hs]
  simp only [flatL, flatB, contN]
  rw [if_pos (by simp), esc_cont cs hs]
  rfl
theorem esc_nodes3 (cs : List UInt8) (hs : ∀ b ∈ cs, S.Sign b) : nodesOf (escQ cs) = [⟨0, 5, 0, ⟨#[]⟩, ⟨#[]⟩⟩, ⟨1, 6, -1, ⟨#[]⟩, ⟨#[116, 105, 103, 104, 116]⟩⟩, ⟨2, 7, 0, ⟨#[]⟩, ⟨#[]⟩⟩, ⟨3, 1, 0, ⟨#[]⟩, ⟨#[]⟩⟩, ⟨4, 15, 0, ⟨#[]⟩, ⟨#[]⟩⟩, ⟨5, 8, 0, ⟨#[]⟩, S.B (escS cs)⟩, ⟨4, 8, 0, ⟨#[]⟩, ⟨#[32, 98]⟩⟩] := by
  have h10 : 10 ∉ escQ cs := by have := esc_no10 cs hs; simp [escQ, S.quoted, starT, this]
  have hlen : ∃ e, (escQ cs).length = e + 2 := ⟨(escQ cs).length - 2, by simp [escQ, S.quoted]⟩
  obtain ⟨e, he⟩ := hlen
  have h97 : (97 : UInt8) ∈ escT cs ++ [42, 42, 32, 98] := by simp [escT]
  have hrow := S.item_rowS (starT cs) (escT cs ++ [42, 42, 32, 98]) (by simp [starT]) h97 98 ([42, 42] ++ escT cs ++ [42, 42, 32]) (by simp [starT]) (by decide) e
  unfold nodesOf
  rw [S.lines_whole (escQ cs) h10 (by simp [escQ, S.quoted]), show [escQ cs] = [[42, 32] ++ starT cs].map S.quoted from rfl, S.quoted_row, he, hrow]
  simp only [flatL, flatB, contN]
  rw [if_neg (by decide), if_neg (by decide), if_neg (by decide), if_pos (by simp)]
  have hc : contT (starT cs) = [.mk 15 [] [] [textPt (cs ++ [97])] 0 false false, textPt [32, 98]] := strong_cont cs hs
  rw [hc]
  rfl
end Go.Proofs.YtlojgpkajkedeaaGreatDoor
