/- Listed: the walk of the statement. -/
import Derived.Test.YtlojgpkajkedeaaGreatDoorLM
namespace Go.Proofs.YtlojgpkajkedeaaGreatDoor
open Go.RowKit

def Nd.deep2 (x : Nd) : Nd := { x with depth := x.depth + 2 }
theorem deep_deep (l : List Nd) : (l.map Nd.deep).map Nd.deep = l.map Nd.deep2 := by
  rw [List.map_map]
  apply List.map_congr_left
  intro x _
  show (⟨x.depth + 1 + 1, x.kind, x.n, x.info, x.text⟩ : Nd) = ⟨x.depth + 2, x.kind, x.n, x.info, x.text⟩
  rw [Int.add_assoc]; rfl

set_option maxRecDepth 100000 in
set_option maxHeartbeats 4000000 in
theorem deeper_two (B : Nat) (a : Option Addr) (cp : Nat) (l : List Nd) (w : World) (hown : OwnsN B a cp l w) (hl : l.length ≤ 1000000) (hd : ∀ x ∈ l, 0 ≤ x.depth ∧ x.depth < 1000000) :
    Calls Tryz.prog 25 #[.slice a l.length cp, .int .i64 2] w fun e w' => ∃ a' cp', e = .returned (.slice a' l.length cp') ∧ OwnsN w.heap.size a' cp' (l.map Nd.deep2) w' ∧ Below w.heap.size w w' ∧ (l = [] → a' = none ∧ cp' = 0) := by
  obtain ⟨i0, hi, hz0, hz1, hz2⟩ := info_parts Tryz.infoNode
  have hownH := hid hown
  have hdH := hid hd
  clear hown hd
  go_enter Tryz.func25, Tryz.ntmps25
  go_wp2
  go_loopw [5, 6] (fun v i wr => ∃ (k : Nat) (a' : Option Addr) (cp' : Nat), k ≤ l.length ∧ i = .int .i64 k ∧ v = .slice a' k cp' ∧ OwnsN w.heap.size a' cp' ((l.take k).map Nd.deep2) wr ∧ Below w.heap.size w wr ∧ Hid (k = 0 → a' = none ∧ cp' = 0)) (fun _ i _ => l.length - (intOf i).toNat)
  case atStart => exact ⟨0, none, 0, Nat.zero_le _, rfl, rfl, OwnsN.nil _ _, Below.refl _ _, hid (fun _ => ⟨rfl, rfl⟩)⟩
  case round =>
    obtain ⟨k, a', cp', hk, rfl, rfl, hownr, hb, hk0⟩ := hrel
    have hlenk : ((l.take k).map Nd.deep2).length = k := by rw [List.length_map, List.length_take]; omega
    by_cases hlt : k < l.length
    · obtain ⟨x, hx⟩ : ∃ x, l[k]? = some x := ⟨l[k], List.getElem?_eq_getElem hlt⟩
      have hdx := hdH.out x (List.mem_of_getElem? hx)
      obtain ⟨g0, rfl, hg0, hg0l, c0, c1, c2, c3, c4⟩ := ownsN_at hownH.out k x hx
      obtain ⟨xd, xk, xn, xi, xt⟩ := x
      have key : ∀ j, wr.cell? ⟨g0, j, none⟩ = w.cell? ⟨g0, j, none⟩ := fun j => hb.cell (p := ⟨g0, j, none⟩) hg0l
      rw [← key] at c0 c1 c2 c3 c4
      dsimp only at c0 c1 c2 c3 c4 hdx
      have hnx : Hid ((l.take (k + 1)).map Nd.deep2 = (l.take k).map Nd.deep2 ++ [⟨xd + 2, xk, xn, xi, xt⟩]) := hid (by
        rw [List.take_add_one, hx, List.map_append]; rfl)
      have hi1 : (k : Int) < (l.length : Int) := by omega
      have hi0 : (0 : Int) ≤ (k : Int) := by omega
      have hszr : w.heap.size ≤ wr.heap.size := hb.size
      have hown2 : Hid (∀ o1 o2, ((wr.alloc o1).alloc o2).ownsRow w.heap.size 36 5 (.slice a' k cp') k (ndCells ((l.take k).map Nd.deep2))) := hid (fun o1 o2 => by
        have := OwnsN.alloc (OwnsN.alloc hownr o1) o2
        unfold OwnsN at this; rwa [hlenk] at this)
      have hltr : Hid (∀ g, (Value.slice a' k cp').ownBlock = some g → w.heap.size ≤ g) := hid (fun g hg => by
        have := hownr.lt g (by rw [hlenk]; exact hg); exact this.1)
      have hnew : Hid (∀ X j u, (five ⟨xd + 2, xk, xn, xi, xt⟩)[j]? = some u → ((wr.alloc X).alloc (.cells #[.int .i64 (xd + 2), .int .i64 xk, .int .i64 xn, .string xi, .string xt] 36)).cell? ((⟨wr.heap.size + 1, 0, none⟩ : Addr).add j) = some u) := hid (by
        intro X j u hj
        have hsz : (wr.alloc X).heap.size = wr.heap.size + 1 := by simp
        have ha : (⟨wr.heap.size + 1, 0, none⟩ : Addr).add j = ⟨(wr.alloc X).heap.size, j, none⟩ := by
          rw [hsz]; simp only [Addr.add]; split
          · rename_i h; simp <;> omega
          · simp <;> omega
        rw [ha]
        exact cell_blk (alloc_new _ _) j u (by rw [← hj]; simp [five]))
      have hone : Hid (∀ u ∈ five ⟨xd + 2, xk, xn, xi, xt⟩, u.oneCell' = true) := hid (by
        intro u hu; simp [five] at hu; rcases hu with rfl | rfl | rfl | rfl | rfl <;> rfl)
      have hbH := hid hb
      have hwrap : IntKind.i64.wrap (xd + 2) = xd + 2 := by rw [IntKind.wrap_i64]; omega
      clear hownr hb key hlenk hx
      go_wp2_with (at_builtin; refine wpList_append_lies _ (by rfl) _ _ 22 (by rfl) w.heap.size 36 i0 (.agg #[.int .i64 0, .int .i64 0, .int .i64 0, .string ⟨#[]⟩, .string ⟨#[]⟩]) 5 56 Tryz.underlying22 hi hz0 hz1 hz2 (by rfl) (by omega) (.slice a' k cp') k (ndCells ((l.take k).map Nd.deep2)) (by rfl) (hown2.out _ _) ⟨wr.heap.size + 1, 0, none⟩ 1 1 (five ⟨xd + 2, xk, xn, xi, xt⟩) (by rfl) (by rfl) (hnew.out _) hone.out (by omega) (by unfold maxLen; omega) (by omega) (by simp; omega) (wr.heap.size + 1 + 1) (by simp) ?_)
      intro g cap1 w3 hown3 hgrow hat hltg
      have hb3 : Hid (Below w.heap.size w w3) := hid (Below.grown ((hbH.out.alloc hszr _).alloc (by simp; omega) _) hgrow (by simp; omega) (fun q hq => hltr.out q hq))
      have hown4 : Hid (OwnsN w.heap.size (some ⟨g, 0, none⟩) cap1 ((l.take (k + 1)).map Nd.deep2) w3) := hid (by
        unfold OwnsN
        rw [hnx.out, ndCells_snoc, List.length_append, List.length_map, List.length_take, Nat.min_eq_left hk]
        first | exact hown3 | (rw [List.map_take]; exact hown3))
      clear hown3 hgrow hat hltg
      go_wp2
      go_roundw
      case rel => exact ⟨k + 1, some ⟨g, 0, none⟩, cap1, by omega, by go_num, rfl, hown4.out, hb3.out, hid (fun h => by omega)⟩
      case measure => simp [intOf]; omega
    · obtain rfl : k = l.length := by omega
      rw [List.take_length] at hownr
      have hownrH := hid hownr
      have hbH := hid hb
      clear hownr hb hlenk
      go_wp2
      go_ret
      exact ⟨a', cp', rfl, hownrH.out, hbH.out, fun h => hk0.out (by rw [h]; rfl)⟩


set_option maxHeartbeats 1000000 in
theorem spaces_any (s : ByteArray) (w : World) (hs : s.size ≤ 8000000) :
    Calls Tryz.prog 27 #[.string s] w fun e w' => e = .returned (.int .i64 (S.indent s.data.toList : Nat)) ∧ w = w' := by
  go_enter Tryz.func27, Tryz.ntmps27
  go_wp2
  go_loop [3] (fun i => ∃ k : Nat, k ≤ s.size ∧ i = .int .i64 k ∧ ∀ j, j < k → s.data.toList[j]? = some 32) (fun i => s.size - (intOf i).toNat)
  case atStart => exact ⟨0, Nat.zero_le _, rfl, by intro j hj; omega⟩
  case round =>
    obtain ⟨k, hk, rfl, hall⟩ := hrel
    have hallH := hid hall
    clear hall
    by_cases hlt : k < s.size
    · have hg : s.data.toList[k]? = some s[k] := S.get_data s k hlt
      by_cases hx : s[k] = 32
      · have hxn : s[k].toNat = 32 := by rw [hx]; rfl
        have hall2 : Hid (∀ j, j < k + 1 → s.data.toList[j]? = some 32) := hid (fun j hj => by
          by_cases e : j = k
          · subst e; rw [hg, hx]
          · exact hallH.out j (by omega))
        clear hg hx
        go_wp2
        go_round
        case rel => exact ⟨k + 1, by omega, by go_num, hall2.out⟩
        case measure => simp [intOf]; omega
      · have hxb : (((s[k].toNat : Nat) : Int) == 32) = false := by
          rw [beq_eq_false_iff_ne]; intro e; exact hx (UInt8.toNat_inj.1 (by show s[k].toNat = 32; omega))
        have hres : Hid (S.indent s.data.toList = k) := hid (S.cnt_at 32 _ k hallH.out (by rw [hg]; simpa using hx))
        clear hg hx
        go_wp2
        go_ret
        exact ⟨by rw [hres.out]; rfl, rfl⟩
    · have hres : Hid (S.indent s.data.toList = k) := hid (S.cnt_at 32 _ k hallH.out (by rw [List.getElem?_eq_none (by rw [S.length_data]; omega)]; simp))
      have hlti : ¬ (k : Int) < (s.size : Int) := by omega
      go_wp2
      go_ret
      exact ⟨by rw [hres.out]; rfl, rfl⟩
end Go.Proofs.YtlojgpkajkedeaaGreatDoor
