import Derived.Test.YtpoaadfkalnjgaaGreatDoorC5
namespace Go.Proofs.YtpoaadfkalnjgaaGreatDoor
open Go.RowKit

def spacingOf (loose : Bool) : ByteArray := if loose then ⟨#[108, 111, 111, 115, 101]⟩ else ⟨#[116, 105, 103, 104, 116]⟩

set_option maxHeartbeats 2000000 in
theorem spacing_any (k n : Int) (info text : ByteArray) (loose : Bool) (ka : Option Addr) (kn kc : Nat) (w : World) :
    Calls Tryz.prog 39 #[.agg #[.int .i64 k, .int .i64 n, .string info, .string text, .bool loose, .slice ka kn kc]] w fun e w' => e = .returned (.string (spacingOf loose)) ∧ w.alloc (.cells #[.int .i64 k, .int .i64 n, .string info, .string text, .bool loose, .slice ka kn kc] 60) = w' := by
  cases loose
  · go_enter Tryz.func39, Tryz.ntmps39
    go_wp2
    go_ret
    exact ⟨rfl, rfl⟩
  · go_enter Tryz.func39, Tryz.ntmps39
    go_wp2
    go_ret
    exact ⟨rfl, rfl⟩

def textOf (k : Int) (text : ByteArray) (loose : Bool) : ByteArray := if k = 3 then text else if k = 6 then spacingOf loose else ⟨#[]⟩

theorem five_blk {w : World} {N T : Nat} {u0 u1 u2 u3 u4 : Value} (h : w.heap[N]? = some (.cells [u0, u1, u2, u3, u4].toArray T (0, 0))) (v0 v1 v2 v3 v4 : Value) :
    (((((w.setCell ⟨N, 0, none⟩ v0).setCell ⟨N, 1, none⟩ v1).setCell ⟨N, 2, none⟩ v2).setCell ⟨N, 3, none⟩ v3).setCell ⟨N, 4, none⟩ v4).heap[N]? = some (.cells #[v0, v1, v2, v3, v4] T (0, 0)) :=
  set_blk (set_blk (set_blk (set_blk (set_blk h 0 v0) 1 v1) 2 v2) 3 v3) 4 v4

set_option maxHeartbeats 4000000 in
theorem nodeOf_any (k n : Int) (info text : ByteArray) (loose : Bool) (ka : Option Addr) (kn kc : Nat) (depth : Int) (w : World) :
    Calls Tryz.prog 32 #[.agg #[.int .i64 k, .int .i64 n, .string info, .string text, .bool loose, .slice ka kn kc], .int .i64 depth] w fun e w' => e = .returned (.agg #[.int .i64 depth, .int .i64 k, .int .i64 n, .string info, .string (textOf k text loose)]) ∧ Below w.heap.size w w' := by
  have hs1 : ∀ o, (w.alloc o).heap.size = w.heap.size + 1 := by intro o; simp
  have hs2 : ∀ o o2, ((w.alloc o).alloc o2).heap.size = w.heap.size + 2 := by intro o o2; simp
  have hR : ∀ o o2 o3, (((w.alloc o).alloc o2).alloc o3).heap[w.heap.size + 1]? = some o2 := by
    intro o o2 o3; rw [Below.heap_alloc _ _ _ (by simp), ← hs1 o]; exact alloc_new _ _
  have hb3 : ∀ o o2 o3, Below w.heap.size w (((w.alloc o).alloc o2).alloc o3) := fun o o2 o3 => (((Below.refl _ _).alloc (Nat.le_refl _) _).alloc (by simp) _).alloc (by simp; omega) _
  have hRH := hid hR
  have hb3H := hid hb3
  clear hR hb3 hs1 hs2
  by_cases h3 : k = 3
  · subst h3
    go_enter Tryz.func32, Tryz.ntmps32
    go_wp2
    exact bodyPost_ret (v := .agg #[.int .i64 depth, .int .i64 3, .int .i64 n, .string info, .string text]) (by simp [results, Tryz.results32, go_sem]) rfl ⟨rfl, hb3H.out _ _ _⟩
  · by_cases h6 : k = 6
    · subst h6
      go_enter Tryz.func32, Tryz.ntmps32
      go_wp2_with (go_at_call 39; refine (spacing_any _ _ _ _ _ _ _ _ _).mono ?_; rintro e w' ⟨rfl, rfl⟩)
      refine bodyPost_ret (v := .agg #[.int .i64 depth, .int .i64 6, .int .i64 n, .string info, .string (spacingOf loose)]) (by simp [results, Tryz.results32, go_sem]) rfl ⟨rfl, ?_⟩
      exact (hb3H.out _ _ _).alloc (by simp; omega) _
    · have h3' : (k == 3) = false := by rw [beq_eq_false_iff_ne]; exact h3
      have h6' : (k == 6) = false := by rw [beq_eq_false_iff_ne]; exact h6
      have ht : Hid (textOf k text loose = ⟨#[]⟩) := hid (by unfold textOf; rw [if_neg h3, if_neg h6])
      rw [ht.out]
      clear h3 h6
      go_enter Tryz.func32, Tryz.ntmps32
      go_wp2
      exact bodyPost_ret (v := .agg #[.int .i64 depth, .int .i64 k, .int .i64 n, .string info, .string ⟨#[]⟩]) (by simp [results, Tryz.results32, go_sem]) rfl ⟨rfl, hb3H.out _ _ _⟩

set_option maxHeartbeats 4000000 in
theorem appendContent_none (k n : Int) (info text : ByteArray) (loose : Bool) (ka : Option Addr) (kn kc : Nat) (depth : Int) (a : Option Addr) (ln cp : Nat) (w : World) (h1 : ¬ k = 1) (h2 : ¬ k = 2) :
    Calls Tryz.prog 33 #[.slice a ln cp, .agg #[.int .i64 k, .int .i64 n, .string info, .string text, .bool loose, .slice ka kn kc], .int .i64 depth] w fun e w' => e = .returned (.slice a ln cp) ∧ Below w.heap.size w w' := by
  have h1' : (k == 1) = false := by rw [beq_eq_false_iff_ne]; exact h1
  have h2' : (k == 2) = false := by rw [beq_eq_false_iff_ne]; exact h2
  have h1n : (k != 1) = true := by simp [bne, h1']
  have h2n : (k != 2) = true := by simp [bne, h2']
  clear h1 h2
  go_enter Tryz.func33, Tryz.ntmps33
  go_wp2
  go_ret
  exact ⟨rfl, (Below.refl _ _).alloc (Nat.le_refl _) _⟩

set_option maxHeartbeats 4000000 in
theorem appendContent_A (B : Nat) (k n : Int) (info : ByteArray) (loose : Bool) (ka : Option Addr) (kn kc : Nat) (depth : Nat) (a : Option Addr) (cp : Nat) (l : List Nd) (w : World) (hk : k = 1 ∨ k = 2) (hB : B ≤ w.heap.size) (hown : OwnsN B a cp l w) (hl : l.length ≤ 1000000) (hd : depth ≤ 1000000) :
    Calls Tryz.prog 33 #[.slice a l.length cp, .agg #[.int .i64 k, .int .i64 n, .string info, .string ⟨#[97]⟩, .bool loose, .slice ka kn kc], .int .i64 (depth : Nat)] w (Laid B (Value.slice a l.length cp).ownBlock (l ++ [ndA depth]) w) := by
  have hbx : ∀ o, Below w.heap.size w (w.alloc o) := fun o => (Below.refl _ _).alloc (Nat.le_refl _) _
  have hW := hid (fun o => within_A (w.alloc o))
  have hP : Hid (∀ o m w3, w.heap.size + 1 ≤ m → m < w3.heap.size → w3.heap[m]? = some (.cells partA 100 (0, 0)) → Below (w.heap.size + 1) (w.alloc o) w3 → Calls Tryz.prog 40 #[.slice a l.length cp, .agg #[.pointer (some ⟨m, 0, none⟩), .pointer (some ⟨m, 0, none⟩)], .int .i64 (depth : Nat)] w3 (Laid B (Value.slice a l.length cp).ownBlock (l ++ [ndA depth]) w)) := hid (by
    intro o m w3 h1 h2 h3 h4
    have hs : (w.alloc o).heap.size = w.heap.size + 1 := by simp
    have hb : Below w.heap.size w w3 := (hbx o).trans (h4.mono (by omega))
    have hlt := hown.lt
    refine (appendParts_A B m a cp l depth w3 (by have := h4.size; omega) (hown.below hb) hl hd h2 h3 (fun e => by have := hlt m e.symm; omega)).mono ?_
    rintro e w' ⟨a', cp', h5, h6, h7, h8⟩
    exact ⟨a', cp', h5, h6, grown_trans (grown_below hb _) h7 (fun g h => .inl h), fun g hg => (h8 g hg).imp id (fun h => Nat.le_trans hb.size h)⟩)
  clear hbx hown
  rcases hk with rfl | rfl
  · go_enter Tryz.func33, Tryz.ntmps33
    go_wp2_with fail
    refine (hW.out _).mono ?_
    rintro e w3 ⟨m, rfl, hm1, hm2, hM, hb3⟩
    have hPP := hid (hP.out _ m w3 (by simpa using hm1) hm2 hM (by simpa using hb3))
    clear hm1 hm2 hM hb3
    go_wp2_with fail
    refine hPP.out.mono ?_
    rintro e w' ⟨a', cp', rfl, h6, h7, h8⟩
    have h6H := hid h6
    have h7H := hid h7
    have h8H := hid h8
    clear h6 h7 h8
    go_wp2
    go_ret
    exact ⟨a', cp', by rw [List.length_append]; rfl, h6H.out, h7H.out, h8H.out⟩
  · go_enter Tryz.func33, Tryz.ntmps33
    go_wp2_with fail
    refine (hW.out _).mono ?_
    rintro e w3 ⟨m, rfl, hm1, hm2, hM, hb3⟩
    have hPP := hid (hP.out _ m w3 (by simpa using hm1) hm2 hM (by simpa using hb3))
    clear hm1 hm2 hM hb3
    go_wp2_with fail
    refine hPP.out.mono ?_
    rintro e w' ⟨a', cp', rfl, h6, h7, h8⟩
    have h6H := hid h6
    have h7H := hid h7
    have h8H := hid h8
    clear h6 h7 h8
    go_wp2
    go_ret
    exact ⟨a', cp', by rw [List.length_append]; rfl, h6H.out, h7H.out, h8H.out⟩

end Go.Proofs.YtpoaadfkalnjgaaGreatDoor
