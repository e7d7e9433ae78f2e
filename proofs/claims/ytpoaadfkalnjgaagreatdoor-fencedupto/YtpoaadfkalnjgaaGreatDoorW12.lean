import Derived.Test.YtpoaadfkalnjgaaGreatDoorW11
import Derived.Test.YtpoaadfkalnjgaaGreatDoorW8
namespace Go.Proofs.YtpoaadfkalnjgaaGreatDoor
open Go.RowKit

/-- Rows that are made of a row, line by line. -/
def mapAt (f : List UInt8 → List UInt8) (ss : List ByteArray) (j : Nat) : List UInt8 := f ((dat ss)[j]?.getD [])
def mapRow (f : List UInt8 → List UInt8) (ss : List ByteArray) : List ByteArray := (List.range ss.length).map (fun j => S.B (mapAt f ss j))
theorem mapRow_length (f : List UInt8 → List UInt8) (ss : List ByteArray) : (mapRow f ss).length = ss.length := by simp [mapRow]
theorem mapRow_get (f : List UInt8 → List UInt8) (ss : List ByteArray) (i : Nat) (s : ByteArray) (h : (mapRow f ss)[i]? = some s) : i < ss.length ∧ s = S.B (mapAt f ss i) := by
  have hi : i < ss.length := by have := (List.getElem?_eq_some_iff.1 h).1; rw [mapRow_length] at this; exact this
  refine ⟨hi, ?_⟩
  simp [mapRow, hi] at h
  exact h.symm
theorem mapRow_dat (f : List UInt8 → List UInt8) (ss : List ByteArray) : dat (mapRow f ss) = (dat ss).map f := by
  apply List.ext_getElem?
  intro i
  rw [dat_get, List.getElem?_map]
  by_cases hi : i < ss.length
  · have h2 : i < (dat ss).length := by rw [dat_length]; exact hi
    simp only [mapRow, List.getElem?_map, List.getElem?_range hi, Option.map_some, S.data_B, mapAt]
    rw [List.getElem?_eq_getElem h2]; rfl
  · rw [List.getElem?_eq_none (by rw [mapRow_length]; omega), List.getElem?_eq_none (by rw [dat_length]; omega)]; rfl
theorem mapAt_eq (f : List UInt8 → List UInt8) (ss : List ByteArray) (j : Nat) (s : ByteArray) (h : ss[j]? = some s) : mapAt f ss j = f s.data.toList := by
  unfold mapAt; rw [dat_get, h]; rfl
def restOf (l : List UInt8) : List UInt8 := l.drop (S.indent l)
theorem joinLines_eq (rows : List (List UInt8)) : S.joinLines rows = Lib.join (rows.map restOf) [10] := by
  induction rows with
  | nil => rfl
  | cons x r ih =>
    cases r with
    | nil => simp [S.joinLines, Lib.join, List.intercalate, restOf]
    | cons y t =>
      have : S.joinLines (x :: y :: t) = restOf x ++ 10 :: S.joinLines (y :: t) := rfl
      rw [this, ih]
      simp [Lib.join, List.intercalate]
theorem join_le (ss : List ByteArray) : (Lib.join ((dat ss).map restOf) [10]).length ≤ tot ss := by
  rw [← joinLines_eq]
  induction ss with
  | nil => simp [dat, S.joinLines]
  | cons x r ih =>
    cases r with
    | nil => simp [dat, S.joinLines, tot, List.length_drop]; rw [← S.length_data]; simp; omega
    | cons y t =>
      have e : S.joinLines (dat (x :: y :: t)) = restOf x.data.toList ++ 10 :: S.joinLines (dat (y :: t)) := rfl
      rw [e, List.length_append, List.length_cons]
      have : (restOf x.data.toList).length ≤ x.size := by unfold restOf; rw [List.length_drop, S.length_data]; omega
      simp only [tot, List.map_cons, List.sum_cons] at *
      omega

set_option maxHeartbeats 2000000 in
theorem joinRests_any (b o cap : Nat) (ss : List ByteArray) (w : World) (hbw : b < w.heap.size) (hrow : RowS w b o ss) :
    Calls Tryz.prog 130 #[.slice (some ⟨b, o, none⟩) ss.length cap] w fun e w' =>
      ∃ r : ByteArray, e = .returned (.string r) ∧ Hid (r.data.toList = Lib.trimRightB (S.joinLines (dat ss)) 32) ∧ Below w.heap.size w w' := by
  have htot := hrow.2
  have hlen := hrow.len
  obtain ⟨n, hnn⟩ : ∃ n, n = ss.length := ⟨_, rfl⟩
  have hmk := run_make_row' (P := Tryz.prog) 32 9 (.string ⟨#[]⟩) 16 Tryz.underlying32 Tryz.infoStr rfl .i64 .i64 n (by omega) (by omega)
  rw [← hnn] at hlen ⊢
  have hnH := hid hnn
  have hmade := hid (World.rowIs_made w (.string ⟨#[]⟩) n 9)
  have hbelA := hid ((Below.refl w.heap.size w).alloc (Nat.le_refl _) (.cells (madeCells #[.string ⟨#[]⟩] n) 9))
  clear hnn
  go_enter Tryz.func130, Tryz.ntmps130
  go_wp2
  clear hmk
  go_loopw [4, 5, 11] (fun _ _ i wr => ∃ k : Nat, k ≤ n ∧ i = .int .i64 k ∧ wr.rowIs w.heap.size 9 n (fun j => if j < k then .string (S.B (mapAt restOf ss j)) else .string ⟨#[]⟩) ∧ Below w.heap.size w wr) (fun _ _ i _ => n - (intOf i).toNat)
  case atStart => exact ⟨0, Nat.zero_le _, rfl, hmade.out.congr (by intro j hj; simp), hbelA.out⟩
  case round =>
    obtain ⟨k, hk, rfl, hri, hbel⟩ := hrel
    have hriH := hid hri
    have hbelH := hid hbel
    have hBw : w.heap.size < wr.heap.size := hri.lt
    clear hri hbel
    by_cases hlt : k < n
    · obtain ⟨s, hs⟩ : ∃ s, ss[k]? = some s := ⟨ss[k]'(by have := hnH.out; omega), List.getElem?_eq_getElem (by have := hnH.out; omega)⟩
      have hcell : wr.cell? ⟨b, o + k, none⟩ = some (.string s) := (hbelH.out.cell (p := ⟨b, o + k, none⟩) hbw).trans (hrow.1 k s hs)
      have hsm : s.size ≤ maxLen := by have := tot_mem _ _ s hs; unfold maxLen; omega
      have hla := hid (mapAt_eq restOf ss k s hs)
      have hil : S.indent s.data.toList ≤ s.size := by have := S.indent_le s.data.toList; rw [S.length_data] at this; exact this
      have hst : ∃ v, wr.cell? ⟨w.heap.size, k, none⟩ = some v := ⟨_, hriH.out.cell hlt⟩
      obtain ⟨v0, hst⟩ := hst
      have hfz := hriH.out.frozen k
      obtain ⟨t, ht⟩ : ∃ t, S.indent s.data.toList = t := ⟨_, rfl⟩
      have hIO : Hid (∀ wx, Calls Tryz.prog 63 #[.string s] wx fun e w' => e = .returned (.int .i64 (t : Nat)) ∧ wx = w') := hid (fun wx => by
        have := indentOf_any s wx hsm; rw [ht] at this; exact this.mono (fun e w' h => ⟨h.1, h.2.symm⟩))
      have hrB : Hid (Value.string (s.extract t s.size) = .string (S.B (mapAt restOf ss k))) := hid (by
        rw [hla.out, ← S.B_data (s.extract t s.size), S.drop_data, ← ht]; rfl)
      rw [ht] at hil
      clear hs ht
      go_wp2_with (go_at_call 63; refine (hIO.out _).mono ?_; rintro e w'' ⟨rfl, rfl⟩)
      go_roundw
      case rel =>
        refine ⟨k + 1, by omega, by go_num, ?_, ?_⟩
        · refine (hriH.out.set k (.string (s.extract t s.size))).congr ?_
          intro j hj
          by_cases hjk : j = k
          · subst hjk; simp only [if_true]; rw [if_pos (by omega)]; exact hrB.out
          · rw [if_neg hjk]
            by_cases hj2 : j < k
            · rw [if_pos hj2, if_pos (by omega)]
            · rw [if_neg hj2, if_neg (by omega)]
        · exact hbelH.out.setCell (Nat.le_refl _) _
      case measure => simp [intOf]; omega
    · have hkn : k = n := by omega
      subst hkn
      have hcs : ∀ (j : Nat) x, (mapRow restOf ss)[j]? = some x → wr.cell? ⟨w.heap.size, 0 + j, none⟩ = some (.string x) := by
        intro j x hx
        obtain ⟨hj, rfl⟩ := mapRow_get restOf ss j x hx
        have hjk : j < k := by have := hnH.out; omega
        have := hriH.out.cell hjk
        rw [if_pos hjk] at this
        rw [Nat.zero_add]; exact this
      have hml : (mapRow restOf ss).length = k := by rw [mapRow_length]; exact hnH.out.symm
      have hJ := Tryz.strings_Join w.heap.size 0 k (mapRow restOf ss) ⟨#[10]⟩ wr hcs hBw (by omega) (by omega) (by
        have := join_le ss; rw [← mapRow_dat] at this; exact Nat.le_trans this (by omega))
      rw [hml] at hJ
      have hJH := hid hJ
      clear hJ hcs hml
      go_wp2_with fail
      refine hJH.out.mono ?_
      rintro e w1 ⟨rfl, hb1⟩
      have hbF := hid (hbelH.out.trans (hb1.mono (Nat.le_of_lt hBw)))
      obtain ⟨J, hJ⟩ : ∃ J : List UInt8, J = Lib.join ((mapRow restOf ss).map (·.data.toList)) (ByteArray.mk #[10]).data.toList := ⟨_, rfl⟩
      have hJ2 : Hid (J = S.joinLines (dat ss)) := hid (by rw [hJ, joinLines_eq]; show Lib.join (dat (mapRow restOf ss)) [10] = _; rw [mapRow_dat])
      have hJl : J.length ≤ 1000000 := by rw [hJ2.out, joinLines_eq]; exact Nat.le_trans (join_le ss) htot
      rw [← hJ]
      clear hb1 hJ
      go_wp2_with fail
      refine (trimRight_any _ 32 (by decide) _ (by rw [S.size_B']; unfold maxLen; omega)).mono ?_
      rintro e w2 ⟨r, rfl, hr, hrl, rfl⟩
      go_wp2
      go_ret
      exact ⟨r, rfl, hid (by rw [hr.out, hJ2.out]), hbF.out⟩

end Go.Proofs.YtpoaadfkalnjgaaGreatDoor
