import Derived.Test.YtlojgpkajkedeaaGreatDoorPL
import Derived.Test.YtlojgpkajkedeaaGreatDoorC9
import Derived.Laws.IdiomStrings
/- The statement's own small functions: safe, digits. -/
namespace Go.Proofs.YtlojgpkajkedeaaGreatDoor
open Go.RowKit

theorem B_app (a : List UInt8) (x : ByteArray) : S.B a ++ x = S.B (a ++ x.data.toList) := by
  have h : (S.B a ++ x).data = (S.B (a ++ x.data.toList)).data := by simp [S.B, ByteArray.data_append]
  exact ByteArray.ext h
theorem app_B (x : ByteArray) (a : List UInt8) : x ++ S.B a = S.B (x.data.toList ++ a) := by
  have h : (x ++ S.B a).data = (S.B (x.data.toList ++ a)).data := by simp [S.B, ByteArray.data_append]
  exact ByteArray.ext h
set_option maxRecDepth 100000 in
set_option maxHeartbeats 4000000 in
theorem safe_any (s : ByteArray) (w : World) (hs : s.size ≤ 10000000) :
    Calls Tryz.prog 73 #[.string s] w fun e w' => e = .returned (.string (S.B (S.escH s.data.toList))) ∧ w' = w := by
  go_enter Tryz.func73, Tryz.ntmps73
  go_wp2
  go_loop [3, 4] (fun t i => ∃ k : Nat, k ≤ s.size ∧ i = .int .i64 k ∧ t = .string (S.B (S.escH (s.data.toList.take k)))) (fun _ i => s.size - (intOf i).toNat)
  case atStart => exact ⟨0, Nat.zero_le _, rfl, rfl⟩
  case round =>
    obtain ⟨k, hk, rfl, rfl⟩ := hrel
    by_cases hlt : k < s.size
    · have hg : s.data.toList[k]? = some s[k] := S.get_data s k hlt
      have hsn := S.escH_snoc _ k _ hg
      have hle := S.escH_le (s.data.toList.take k)
      rw [List.length_take, S.length_data] at hle
      obtain ⟨T, hT⟩ : ∃ T, S.B (S.escH (s.data.toList.take k)) = T := ⟨_, rfl⟩
      have hTz : T.size ≤ 60000000 := by rw [← hT, S.size_B]; omega
      have hfin : Hid (∀ x : ByteArray, S.esc1 s[k] = x.data.toList → T ++ x = S.B (S.escH (s.data.toList.take (k + 1)))) := hid (fun x hx => by rw [← hT, B_app, hsn, hx])
      have hcI : (0 : Int) ≤ (k : Int) := by omega
      have hcI2 : (k : Int) < (s.size : Int) := by omega
      have hcI3 : (k : Int) + 1 ≤ (s.size : Int) := by omega
      rw [hT]
      obtain ⟨c, hc⟩ : ∃ c, s[k] = c := ⟨_, rfl⟩
      have hbyte : s[k].toNat < 256 := s[k].toNat_lt
      clear hsn hle hT hg
      by_cases h0 : c = 38
      · have hx := hid (hfin.out ⟨#[38, 97, 109, 112, 59]⟩ (by rw [hc, h0]; rfl))
        have hcn : s[k].toNat = 38 := by rw [hc, h0]; rfl
        clear h0 hc hfin
        go_wp2
        go_round
        case rel => exact ⟨k + 1, by omega, by go_num, by rw [hx.out]⟩
        case measure => simp [intOf]; omega
      by_cases h1 : c = 60
      · have hx := hid (hfin.out ⟨#[38, 108, 116, 59]⟩ (by rw [hc, h1]; rfl))
        have hcn : s[k].toNat = 60 := by rw [hc, h1]; rfl
        have hb0 : (((s[k].toNat : Nat) : Int) == 38) = false := by rw [beq_eq_false_iff_ne, hc]; intro e; exact h0 (UInt8.toNat_inj.1 (Int.ofNat_inj.1 e))
        clear h0 h1 hc hfin
        go_wp2
        go_round
        case rel => exact ⟨k + 1, by omega, by go_num, by rw [hx.out]⟩
        case measure => simp [intOf]; omega
      by_cases h2 : c = 62
      · have hx := hid (hfin.out ⟨#[38, 103, 116, 59]⟩ (by rw [hc, h2]; rfl))
        have hcn : s[k].toNat = 62 := by rw [hc, h2]; rfl
        have hb0 : (((s[k].toNat : Nat) : Int) == 38) = false := by rw [beq_eq_false_iff_ne, hc]; intro e; exact h0 (UInt8.toNat_inj.1 (Int.ofNat_inj.1 e))
        have hb1 : (((s[k].toNat : Nat) : Int) == 60) = false := by rw [beq_eq_false_iff_ne, hc]; intro e; exact h1 (UInt8.toNat_inj.1 (Int.ofNat_inj.1 e))
        clear h0 h1 h2 hc hfin
        go_wp2
        go_round
        case rel => exact ⟨k + 1, by omega, by go_num, by rw [hx.out]⟩
        case measure => simp [intOf]; omega
      by_cases h3 : c = 34
      · have hx := hid (hfin.out ⟨#[38, 113, 117, 111, 116, 59]⟩ (by rw [hc, h3]; rfl))
        have hcn : s[k].toNat = 34 := by rw [hc, h3]; rfl
        have hb0 : (((s[k].toNat : Nat) : Int) == 38) = false := by rw [beq_eq_false_iff_ne, hc]; intro e; exact h0 (UInt8.toNat_inj.1 (Int.ofNat_inj.1 e))
        have hb1 : (((s[k].toNat : Nat) : Int) == 60) = false := by rw [beq_eq_false_iff_ne, hc]; intro e; exact h1 (UInt8.toNat_inj.1 (Int.ofNat_inj.1 e))
        have hb2 : (((s[k].toNat : Nat) : Int) == 62) = false := by rw [beq_eq_false_iff_ne, hc]; intro e; exact h2 (UInt8.toNat_inj.1 (Int.ofNat_inj.1 e))
        clear h0 h1 h2 h3 hc hfin
        go_wp2
        go_round
        case rel => exact ⟨k + 1, by omega, by go_num, by rw [hx.out]⟩
        case measure => simp [intOf]; omega
      have hx := hid (hfin.out (s.extract k (k + 1)) (by
        rw [hc]
        have h5 : S.esc1 c = [c] := by unfold S.esc1; rw [if_neg h0, if_neg h1, if_neg h2, if_neg h3]
        have hg : s.data.toList[k]? = some s[k] := S.get_data s k hlt
        obtain ⟨hl1, hl2⟩ := List.getElem?_eq_some_iff.1 hg
        rw [h5, S.extract_data, List.drop_eq_getElem_cons hl1, hl2, hc]
        simp))
      have hb0 : (((s[k].toNat : Nat) : Int) == 38) = false := by rw [beq_eq_false_iff_ne, hc]; intro e; exact h0 (UInt8.toNat_inj.1 (Int.ofNat_inj.1 e))
      have hb1 : (((s[k].toNat : Nat) : Int) == 60) = false := by rw [beq_eq_false_iff_ne, hc]; intro e; exact h1 (UInt8.toNat_inj.1 (Int.ofNat_inj.1 e))
      have hb2 : (((s[k].toNat : Nat) : Int) == 62) = false := by rw [beq_eq_false_iff_ne, hc]; intro e; exact h2 (UInt8.toNat_inj.1 (Int.ofNat_inj.1 e))
      have hb3 : (((s[k].toNat : Nat) : Int) == 34) = false := by rw [beq_eq_false_iff_ne, hc]; intro e; exact h3 (UInt8.toNat_inj.1 (Int.ofNat_inj.1 e))
      clear h0 h1 h2 h3 hc hfin
      go_wp2
      go_round
      case rel => exact ⟨k + 1, by omega, by go_num, by rw [← hx.out]⟩
      case measure => simp [intOf]; omega
    · have hke : k = s.size := by omega
      subst hke
      have hfin : Hid (S.escH (s.data.toList.take s.size) = S.escH s.data.toList) := hid (by rw [List.take_of_length_le (by rw [S.length_data]; omega)])
      rw [hfin.out]
      go_wp2
      go_ret
      exact ⟨rfl, rfl⟩
end Go.Proofs.YtlojgpkajkedeaaGreatDoor
/- The statement's own small functions: digits. -/
namespace Go.Proofs.YtlojgpkajkedeaaGreatDoor
open Go.RowKit

theorem conv_dig (c : UInt8) (v : Int) (h : (c.toNat : Int) = v) (wx : World) : (convert 45 9 (.slice (some ⟨wx.heap.size, 0, none⟩) 1 1)).run Tryz.prog (wx.alloc (.cells #[.int .u8 v] 5)) = .ok (.string ⟨#[c]⟩) (wx.alloc (.cells #[.int .u8 v] 5)) := by
  refine run_convert_bytes_back _ 45 9 5 ⟨wx.heap.size, 0, none⟩ 1 [c] Tryz.underlying45 Tryz.underlying5 Tryz.underlying9 ?_
  intro j hj
  have : j = 0 := by simpa using hj
  subst this
  rw [← h]
  exact World.news_of_block (alloc_new _ _) 0 _ rfl
def emptyS : Value → Nat
  | .string s => if s.size = 0 then 1 else 0
  | _ => 0
/-- What digits' loop keeps. -/
def DigRel (n q : Nat) (r : List UInt8) : Prop := (r = [] ∧ q = n) ∨ (r ≠ [] ∧ (q = 0 → Lib.decDigits n = r) ∧ (0 < q → Lib.decDigits n = Lib.decDigits q ++ r))
theorem dec_small (q : Nat) (h : q < 10) : Lib.decDigits q = [UInt8.ofNat (48 + q)] := by rw [Lib.decDigits, dif_pos h]
theorem dec_big (q : Nat) (h : ¬ q < 10) : Lib.decDigits q = Lib.decDigits (q / 10) ++ [UInt8.ofNat (48 + q % 10)] := by rw [Lib.decDigits, dif_neg h]
theorem DigRel.step {n q : Nat} {r : List UInt8} (h : DigRel n q r) (hg : 0 < q ∨ r = []) : DigRel n (q / 10) (UInt8.ofNat (48 + q % 10) :: r) := by
  right
  refine ⟨by simp, ?_, ?_⟩
  · intro h0
    have hq : q < 10 := by omega
    rw [Nat.mod_eq_of_lt hq]
    rcases h with ⟨h1, h2⟩ | ⟨h1, h2, h3⟩
    · subst h1 h2; rw [dec_small q hq]
    · rcases hg with hg | hg
      · rw [h3 hg, dec_small q hq]; rfl
      · exact absurd hg h1
  · intro h0
    have hq : ¬ q < 10 := by omega
    rcases h with ⟨h1, h2⟩ | ⟨h1, h2, h3⟩
    · subst h1 h2; rw [dec_big q hq]
    · rw [h3 (by omega), dec_big q hq]; simp
set_option maxRecDepth 100000 in
set_option maxHeartbeats 4000000 in
theorem digits_any (n : Nat) (w : World) (hn : n ≤ 1000000000) :
    Calls Tryz.prog 74 #[.int .i64 (n : Nat)] w fun e w' => e = .returned (.string (S.B (Lib.decDigits n))) ∧ Below w.heap.size w w' := by
  go_enter Tryz.func74, Tryz.ntmps74
  go_wp2
  go_loopw [0, 3] (fun m t wr => ∃ (q : Nat) (r : List UInt8), q ≤ n ∧ m = .int .i64 q ∧ t = .string (S.B r) ∧ r.length + q ≤ n + 1 ∧ Hid (DigRel n q r ∧ Below w.heap.size w wr)) (fun m t _ => (intOf m).toNat + emptyS t)
  case atStart => exact ⟨n, [], Nat.le_refl _, rfl, rfl, by simp, hid ⟨.inl ⟨rfl, rfl⟩, Below.refl _ _⟩⟩
  case round =>
    obtain ⟨q, r, hq, rfl, rfl, hrl, hR⟩ := hrel
    have hsz : (S.B r).size ≤ 2000000000 := by rw [S.size_B]; omega
    by_cases hg : 0 < q ∨ r = []
    · have hst := hid (hR.out.1.step hg)
      obtain ⟨c, hc⟩ : ∃ c : UInt8, c = UInt8.ofNat (48 + q % 10) := ⟨_, rfl⟩
      have hcn : (c.toNat : Int) = 48 + (q : Int) % 10 := by
        rw [hc]
        have : (UInt8.ofNat (48 + q % 10)).toNat = 48 + q % 10 := by simp [UInt8.toNat_ofNat']; omega
        rw [this]; omega
      have hcv := conv_dig c (48 + (q : Int) % 10) hcn wr
      have hq1 : (0 : Int) ≤ (q : Int) := by omega
      rw [← hc] at hst
      have hbr : Hid (∀ ob, Below w.heap.size w (wr.alloc ob)) := hid (fun ob => hR.out.2.alloc hR.out.2.size ob)
      have hap : Hid ((⟨#[c]⟩ : ByteArray) ++ S.B r = S.B (c :: r)) := hid (by rw [app_B]; rfl)
      have hdv : Hid (Value.int .i64 ((q : Int) / 10) = .int .i64 ((q / 10 : Nat) : Int)) := hid (by congr 1)
      by_cases hq0 : 0 < q
      · have hqI : (0 : Int) < (q : Int) := by omega
        clear hg hc hcn
        go_wp2
        go_roundw
        case rel => exact ⟨q / 10, c :: r, by omega, hdv.out, by rw [hap.out], by rw [List.length_cons]; omega, hid ⟨hst.out, hbr.out _⟩⟩
        case measure =>
          have h1 : emptyS (.string ((⟨#[c]⟩ : ByteArray) ++ S.B r)) = 0 := by
            rw [hap.out]; simp only [emptyS]; rw [if_neg (by rw [S.size_B]; simp)]
          rw [h1]; simp only [intOf]; omega
      · have hr : r = [] := by
          rcases hg with h | h
          · exact absurd h hq0
          · exact h
        have hq00 : q = 0 := by omega
        subst hr hq00
        have hE : (S.B ([] : List UInt8)).toList.isEmpty = true := by rw [ByteArray.toList_eq, S.data_B]; rfl
        have hcv0 := conv_dig c 48 (by rw [hcn]; rfl) wr
        clear hg hc hcn hq1 hcv
        go_wp2
        go_roundw
        case rel => exact ⟨0, [c], by omega, rfl, by rw [hap.out], by simp, hid ⟨hst.out, hbr.out _⟩⟩
        case measure =>
          have h1 : emptyS (.string ((⟨#[c]⟩ : ByteArray) ++ S.B ([] : List UInt8))) = 0 := by
            rw [hap.out]; simp only [emptyS]; rw [if_neg (by rw [S.size_B]; simp)]
          have h2 : emptyS (.string (S.B ([] : List UInt8))) = 1 := rfl
          rw [h1, h2]; simp [intOf]
    · have hq0 : q = 0 := by omega
      have hr : r ≠ [] := fun h => hg (.inr h)
      subst hq0
      have hfin : Hid (S.B r = S.B (Lib.decDigits n)) := hid (by
        rcases hR.out.1 with ⟨h1, _⟩ | ⟨_, h2, _⟩
        · exact absurd h1 hr
        · rw [h2 rfl])
      have hE : (S.B r).toList.isEmpty = false := by
        rw [ByteArray.toList_eq, S.data_B]
        cases r with
        | nil => exact absurd rfl hr
        | cons c r => rfl
      have hRR := hid hR.out.2
      clear hg hr hR
      go_wp2
      go_ret
      exact ⟨by rw [← hfin.out]; rfl, hRR.out⟩
end Go.Proofs.YtlojgpkajkedeaaGreatDoor
/- Trees of nodes, and what the statement writes of them: plain; the function plain. -/
namespace Go.Proofs.YtlojgpkajkedeaaGreatDoor
open Go.RowKit

/-- A tree of nodes. -/
inductive Tr where
  | mk (k n : Int) (info text : ByteArray) (kids : List Tr)
mutual
/-- Its nodes, from a depth on. -/
def trNds (d : Int) : Tr → List Nd
  | .mk k n i t kids => (⟨d, k, n, i, t⟩ : Nd) :: trsNds (d + 1) kids
def trsNds (d : Int) : List Tr → List Nd
  | [] => []
  | x :: r => trNds d x ++ trsNds d r
end
/-- What is plain of one node. -/
def plK (k : Int) (t : ByteArray) : List UInt8 := if k = 8 ∨ k = 11 then t.data.toList else if k = 9 ∨ k = 10 then [32] else []
def plN (x : Nd) : List UInt8 := plK x.kind x.text
def plNs (l : List Nd) : List UInt8 := (l.map plN).flatten
theorem plNs_append (a b : List Nd) : plNs (a ++ b) = plNs a ++ plNs b := by simp [plNs]
theorem plNs_cons (x : Nd) (l : List Nd) : plNs (x :: l) = plN x ++ plNs l := by simp [plNs]
mutual
theorem trNds_ge : ∀ (x : Tr) (d : Int), ∀ y ∈ trNds d x, d ≤ y.depth
  | .mk k n i t kids => by
    intro d y hy
    simp only [trNds, List.mem_cons] at hy
    rcases hy with rfl | hy
    · exact Int.le_refl _
    · have := trsNds_ge kids (d + 1) y hy; omega
theorem trsNds_ge : ∀ (l : List Tr) (d : Int), ∀ y ∈ trsNds d l, d ≤ y.depth
  | [] => by intro d y hy; simp [trsNds] at hy
  | x :: r => by
    intro d y hy
    simp only [trsNds, List.mem_append] at hy
    rcases hy with hy | hy
    · exact trNds_ge x d y hy
    · exact trsNds_ge r d y hy
end
/-- How a node opens and closes. -/
def opT (k n : Int) (i t : ByteArray) (tight : Bool) : List UInt8 :=
  if k = 1 then (if tight = true then [] else [60, 112, 62])
  else if k = 2 then [60, 104] ++ Lib.decDigits n.toNat ++ [62]
  else if k = 3 then (if (i.data.toList.takeWhile (fun c => c != 32)) = [] then [60, 112, 114, 101, 62, 60, 99, 111, 100, 101, 62] else [60, 112, 114, 101, 62, 60, 99, 111, 100, 101, 32, 99, 108, 97, 115, 115, 61, 34] ++ S.escH (i.data.toList.takeWhile (fun c => c != 32)) ++ [34, 62])
  else if k = 4 then [60, 104, 114, 62, 10]
  else if k = 5 then [60, 113, 117, 111, 116, 101, 62, 10]
  else if k = 6 then (if 0 ≤ n ∧ n ≠ 1 then [60, 111, 108, 32, 115, 116, 97, 114, 116, 61, 34] ++ Lib.decDigits n.toNat ++ [34, 62, 10] else if 0 ≤ n then [60, 111, 108, 62, 10] else [60, 117, 108, 62, 10])
  else if k = 7 then [60, 108, 105, 62, 10]
  else if k = 8 then S.escH t.data.toList
  else if k = 9 then [10]
  else if k = 10 then [60, 98, 114, 62, 10]
  else if k = 11 then [60, 99, 111, 100, 101, 62] ++ S.escH t.data.toList
  else if k = 12 then [60, 97, 32, 104, 114, 101, 102, 61, 34] ++ S.escH i.data.toList ++ [34, 62]
  else if k = 14 then [60, 101, 109, 62]
  else if k = 15 then [60, 115, 116, 114, 111, 110, 103, 62]
  else []
def clT (k n : Int) (t : ByteArray) (tight : Bool) : List UInt8 :=
  if k = 1 then (if tight = true then [10] else [60, 47, 112, 62, 10])
  else if k = 2 then [60, 47, 104] ++ Lib.decDigits n.toNat ++ [62, 10]
  else if k = 3 then S.escH t.data.toList ++ [60, 47, 99, 111, 100, 101, 62, 60, 47, 112, 114, 101, 62, 10]
  else if k = 5 then [60, 47, 113, 117, 111, 116, 101, 62, 10]
  else if k = 6 then (if 0 ≤ n then [60, 47, 111, 108, 62, 10] else [60, 47, 117, 108, 62, 10])
  else if k = 7 then [60, 47, 108, 105, 62, 10]
  else if k = 11 then [60, 47, 99, 111, 100, 101, 62]
  else if k = 12 then [60, 47, 97, 62]
  else if k = 14 then [60, 47, 101, 109, 62]
  else if k = 15 then [60, 47, 115, 116, 114, 111, 110, 103, 62]
  else []
def tiT (k : Int) (t : ByteArray) (tight : Bool) : Bool := (decide (k = 6) && (t.data.toList == [116, 105, 103, 104, 116])) || (decide (k = 7) && tight)
mutual
/-- A tree as the statement writes it. -/
def trHt (tight : Bool) : Tr → List UInt8
  | .mk k n i t kids => if k = 13 then [60, 105, 109, 103, 32, 115, 114, 99, 61, 34] ++ S.escH i.data.toList ++ [34, 32, 97, 108, 116, 61, 34] ++ S.escH (plNs (trsNds 0 kids)) ++ [34, 62] else opT k n i t tight ++ trsHt (tiT k t tight) kids ++ clT k n t tight
def trsHt (tight : Bool) : List Tr → List UInt8
  | [] => []
  | x :: r => trHt tight x ++ trsHt tight r
end
mutual
/-- Numbers that can be told. -/
def nmT : Tr → Prop
  | .mk k n _ _ kids => (k = 2 → 0 ≤ n) ∧ n ≤ 1000000000 ∧ -1000000000 ≤ n ∧ nmL kids
def nmL : List Tr → Prop
  | [] => True
  | x :: r => nmT x ∧ nmL r
end
mutual
theorem plNs_tr : ∀ (x : Tr) (d e : Int), plNs (trNds d x) = plNs (trNds e x)
  | .mk k n i t kids => by
    intro d e
    simp only [trNds, plNs_cons]
    rw [plNs_trs kids (d + 1) (e + 1)]
    rfl
theorem plNs_trs : ∀ (l : List Tr) (d e : Int), plNs (trsNds d l) = plNs (trsNds e l)
  | [] => by intro d e; rfl
  | x :: r => by
    intro d e
    simp only [trsNds, plNs_append]
    rw [plNs_tr x d e, plNs_trs r d e]
end
/-- Nodes in memory. -/
def NRow (w : World) (a : Option Addr) (l : List Nd) : Prop := ∀ (i : Nat) (x : Nd), l[i]? = some x → ∃ g, a = some ⟨g, 0, none⟩ ∧ g < w.heap.size ∧ (∀ j u, (five x)[j]? = some u → w.cell? ⟨g, i * 5 + j, none⟩ = some u)
theorem NRow.below {w w' : World} {a : Option Addr} {l : List Nd} (h : NRow w a l) (hb : Below w.heap.size w w') : NRow w' a l := by
  intro i x hi
  obtain ⟨g, h1, h2, h3⟩ := h i x hi
  exact ⟨g, h1, Nat.lt_of_lt_of_le h2 hb.size, fun j u hu => (hb.cell (p := ⟨g, i * 5 + j, none⟩) h2).trans (h3 j u hu)⟩

set_option maxRecDepth 100000 in
set_option maxHeartbeats 4000000 in
theorem plainN_any (l seg rest : List Nd) (a : Option Addr) (cp p : Nat) (d : Int) (w : World) (hrow : NRow w a l) (hp : l.drop p = seg ++ rest) (hple : p ≤ l.length) (hge : ∀ y ∈ seg, d ≤ y.depth) (hrest : ∀ y, rest.head? = some y → y.depth < d) (hl : l.length ≤ 1000000) (hpl : (plNs seg).length ≤ 10000000) :
    Calls Tryz.prog 72 #[.slice a l.length cp, .int .i64 p, .int .i64 d] w fun e w' => e = .returned (.tuple #[.string (S.B (plNs seg)), .int .i64 ((p + seg.length : Nat) : Int)]) ∧ w' = w := by
  have hlenE := congrArg List.length hp
  rw [List.length_drop, List.length_append] at hlenE
  have hget : ∀ j, l[p + j]? = (seg ++ rest)[j]? := fun j => by rw [← hp, List.getElem?_drop]
  have hgetH := hid hget
  have hrowH := hid hrow
  have hgeH := hid hge
  have hrestH := hid hrest
  have hplH := hid hpl
  clear hrow hp hge hrest hget hpl
  go_enter Tryz.func72, Tryz.ntmps72
  go_wp2
  go_loop [1, 8] (fun at' t => ∃ k : Nat, k ≤ seg.length ∧ at' = .int .i64 ((p + k : Nat) : Int) ∧ t = .string (S.B (plNs (seg.take k)))) (fun at' _ => l.length - (intOf at').toNat)
  case atStart => exact ⟨0, Nat.zero_le _, rfl, rfl⟩
  case round =>
    obtain ⟨k, hk, rfl, rfl⟩ := hrel
    by_cases hlt : k < seg.length
    · obtain ⟨x, hx⟩ : ∃ x, seg[k]? = some x := ⟨seg[k], List.getElem?_eq_getElem hlt⟩
      have hxl : l[p + k]? = some x := by rw [hgetH.out, List.getElem?_append_left hlt, hx]
      obtain ⟨g, rfl, hg, hc⟩ := hrowH.out (p + k) x hxl
      have hxd : d ≤ x.depth := hgeH.out x (List.mem_of_getElem? hx)
      have hsn : Hid (plNs (seg.take (k + 1)) = plNs (seg.take k) ++ plN x) := hid (by rw [List.take_add_one, hx, plNs_append]; simp [plNs])
      have hle : (plNs (seg.take k)).length ≤ 10000000 := by
        have h1 := hplH.out
        rw [← List.take_append_drop k seg, plNs_append, List.length_append] at h1
        omega
      have hle2 : (plNs (seg.take k)).length + (plN x).length ≤ 10000000 := by
        have h1 := hplH.out
        rw [← List.take_append_drop (k + 1) seg, plNs_append, List.length_append, hsn.out, List.length_append] at h1
        omega
      obtain ⟨xd, xk, xn, xi, xt⟩ := x
      have c0 : w.cell? ⟨g, (p + k) * 5, none⟩ = some (.int .i64 xd) := hc 0 _ rfl
      have c1 : w.cell? ⟨g, (p + k) * 5 + 1, none⟩ = some (.int .i64 xk) := hc 1 _ rfl
      have c4 : w.cell? ⟨g, (p + k) * 5 + 4, none⟩ = some (.string xt) := hc 4 _ rfl
      have hpk : p + k < l.length := by omega
      have hI0 : (0 : Int) ≤ ((p + k : Nat) : Int) := by omega
      have hI1 : ((p + k : Nat) : Int) < (l.length : Int) := by omega
      obtain ⟨T, hT⟩ : ∃ T, S.B (plNs (seg.take k)) = T := ⟨_, rfl⟩
      have hTz : T.size ≤ 10000000 := by rw [← hT, S.size_B]; exact hle
      have hfin : Hid (∀ v : ByteArray, plN ⟨xd, xk, xn, xi, xt⟩ = v.data.toList → T ++ v = S.B (plNs (seg.take (k + 1)))) := hid (fun v hv => by rw [← hT, B_app, hsn.out, hv])
      have hfin0 : Hid (plN ⟨xd, xk, xn, xi, xt⟩ = [] → T = S.B (plNs (seg.take (k + 1)))) := hid (fun hv => by rw [← hT, hsn.out, hv, List.append_nil])
      have hpn : Hid (plN ⟨xd, xk, xn, xi, xt⟩ = plK xk xt) := hid rfl
      rw [hT]
      have hxd' : d ≤ xd := hxd
      obtain ⟨m, hm⟩ : ∃ m, p + k = m := ⟨_, rfl⟩
      have hxt : (xk = 8 ∨ xk = 11) → xt.size ≤ 10000000 := fun h => by
        have : plN ⟨xd, xk, xn, xi, xt⟩ = xt.data.toList := by rw [hpn.out]; unfold plK; rw [if_pos h]
        rw [this, S.length_data] at hle2; omega
      rw [hm] at c0 c1 c4 hpk hI0 hI1 ⊢
      have hmH := hid hm
      clear hc hx hxl hsn hle hle2 hT hm hxd
      rcases Classical.em (xk = 8) with h8 | h8
      · subst h8
        have hx8 := hid (hfin.out xt (by rw [hpn.out]; rfl))
        have hz8 := hxt (.inl rfl)
        clear hfin hfin0 hpn hxt
        go_wp2
        go_round
        case rel => exact ⟨k + 1, by omega, by have := hmH.out; go_num, by rw [hx8.out]⟩
        case measure => simp [intOf]; omega
      rcases Classical.em (xk = 11) with h11 | h11
      · subst h11
        have hx8 := hid (hfin.out xt (by rw [hpn.out]; rfl))
        have hz8 := hxt (.inr rfl)
        clear hfin hfin0 hpn hxt
        go_wp2
        go_round
        case rel => exact ⟨k + 1, by omega, by have := hmH.out; go_num, by rw [hx8.out]⟩
        case measure => simp [intOf]; omega
      rcases Classical.em (xk = 9) with h9 | h9
      · subst h9
        have hx8 := hid (hfin.out ⟨#[32]⟩ (by rw [hpn.out]; rfl))
        clear hfin hfin0 hpn hxt
        go_wp2
        go_round
        case rel => exact ⟨k + 1, by omega, by have := hmH.out; go_num, by rw [hx8.out]⟩
        case measure => simp [intOf]; omega
      rcases Classical.em (xk = 10) with h10 | h10
      · subst h10
        have hx8 := hid (hfin.out ⟨#[32]⟩ (by rw [hpn.out]; rfl))
        clear hfin hfin0 hpn hxt
        go_wp2
        go_round
        case rel => exact ⟨k + 1, by omega, by have := hmH.out; go_num, by rw [hx8.out]⟩
        case measure => simp [intOf]; omega
      · have hx8 := hid (hfin0.out (by rw [hpn.out]; unfold plK; rw [if_neg (fun h => h.elim h8 h11), if_neg (fun h => h.elim h9 h10)]))
        have e8 : (xk == 8) = false := by rw [beq_eq_false_iff_ne]; exact h8
        have e11 : (xk == 11) = false := by rw [beq_eq_false_iff_ne]; exact h11
        have e9 : (xk == 9) = false := by rw [beq_eq_false_iff_ne]; exact h9
        have e10 : (xk == 10) = false := by rw [beq_eq_false_iff_ne]; exact h10
        clear hfin hfin0 hpn hxt h8 h9 h10 h11
        go_wp2
        go_round
        case rel => exact ⟨k + 1, by omega, by have := hmH.out; go_num, by rw [← hx8.out]⟩
        case measure => simp [intOf]; omega
    · have hke : k = seg.length := by omega
      subst hke
      have hfinT : Hid (S.B (plNs (seg.take seg.length)) = S.B (plNs seg)) := hid (by rw [List.take_length])
      rw [hfinT.out]
      obtain ⟨m, hm⟩ : ∃ m, p + seg.length = m := ⟨_, rfl⟩
      rw [hm]
      have hmI : Hid ((p : Int) + (seg.length : Int) = (m : Int)) := hid (by omega)
      cases hrs : rest with
      | nil =>
        have hml : m = l.length := by rw [hrs] at hlenE; simp at hlenE; omega
        have hI2 : ¬ ((m : Nat) : Int) < (l.length : Int) := by omega
        have hI3 : decide (((m : Nat) : Int) < (l.length : Int)) = false := decide_eq_false hI2
        clear hm hml
        go_wp2
        go_ret2
        exact ⟨by rw [hmI.out]; rfl, rfl⟩
      | cons y ys =>
        have hyl : l[m]? = some y := by rw [← hm, hgetH.out, List.getElem?_append_right (by omega), hrs]; simp
        obtain ⟨g, rfl, hg, hc⟩ := hrowH.out m y hyl
        have hyd : y.depth < d := hrestH.out y (by rw [hrs]; rfl)
        have hml := (List.getElem?_eq_some_iff.1 hyl).1
        obtain ⟨yd, yk, yn, yi, yt⟩ := y
        have c0 : w.cell? ⟨g, m * 5, none⟩ = some (.int .i64 yd) := hc 0 _ rfl
        have hyd' : yd < d := hyd
        have hI1 : ((m : Nat) : Int) < (l.length : Int) := by omega
        have hI4 : ¬ d ≤ yd := by omega
        clear hm hyl hc hyd
        go_wp2
        go_ret2
        exact ⟨by rw [hmI.out]; rfl, rfl⟩
end Go.Proofs.YtlojgpkajkedeaaGreatDoor
