import Derived.Test.YtlojgpkajkedeaaGreatDoorE24
import Derived.Test.YtlojgpkajkedeaaGreatDoorC7
/- Parts as nodes: appendParts. -/
namespace Go.Proofs.YtlojgpkajkedeaaGreatDoor
open Go.RowKit

mutual
/-- The nodes of a part, and of parts. -/
def ptNds (d : Nat) : Pt → List Nd
  | .mk k i t kids _ _ _ => (⟨(d : Int), k, 0, S.B i, S.B t⟩ : Nd) :: ptsNds (d + 1) kids
def ptsNds (d : Nat) : List Pt → List Nd
  | [] => []
  | p :: r => ptNds d p ++ ptsNds d r
end
def ptNd (d : Nat) (p : Pt) : Nd := ⟨(d : Int), p.kind, 0, S.B p.info, S.B p.text⟩
theorem ptNds_eq (d : Nat) (p : Pt) : ptNds d p = ptNd d p :: ptsNds (d + 1) p.kids := by cases p; simp only [ptNds]; rfl
theorem ptsNds_append (d : Nat) (a b : List Pt) : ptsNds d (a ++ b) = ptsNds d a ++ ptsNds d b := by
  induction a with
  | nil => simp [ptsNds]
  | cons p r ih => simp only [List.cons_append, ptsNds, ih, List.append_assoc]
mutual
theorem ptNds_len (d : Nat) : ∀ p : Pt, (ptNds d p).length = cntP p
  | .mk k i t kids _ _ _ => by
    have := ptsNds_len (d + 1) kids
    simp only [ptNds, List.length_cons, cntP, this]; show cntL kids + 1 = 1 + cntL kids; omega
theorem ptsNds_len (d : Nat) : ∀ l : List Pt, (ptsNds d l).length = cntL l
  | [] => by simp [ptsNds, cntP.cntL]
  | p :: r => by
    have h1 := ptNds_len d p
    have h2 := ptsNds_len d r
    simp only [ptsNds, List.length_append, h1, h2, cntL_cons]
end
def Nd.deep (x : Nd) : Nd := { x with depth := x.depth + 1 }
mutual
theorem ptNds_deep (d : Nat) : ∀ p : Pt, ptNds (d + 1) p = (ptNds d p).map Nd.deep
  | .mk k i t kids _ _ _ => by
    have := ptsNds_deep (d + 1) kids
    simp only [ptNds, List.map_cons, this]
    rfl
theorem ptsNds_deep (d : Nat) : ∀ l : List Pt, ptsNds (d + 1) l = (ptsNds d l).map Nd.deep
  | [] => by simp [ptsNds]
  | p :: r => by
    have h1 := ptNds_deep d p
    have h2 := ptsNds_deep d r
    simp only [ptsNds, List.map_append, h1, h2]
end

set_option maxRecDepth 100000 in
set_option maxHeartbeats 8000000 in
theorem appendParts_any (N : Nat) : ∀ (ps : List Pt), cntL ps ≤ N → ∀ (B : Nat) (A : Nat → Prop) (kf kl : Option Addr) (a : Option Addr) (cp : Nat) (l : List Nd) (depth : Nat) (w : World), B ≤ w.heap.size → OwnsN B a cp l w → (l ++ ptsNds depth ps).length ≤ 1000000 → depth + N ≤ 1000000 → KRep w A kf ps → (∀ x, A x → x < w.heap.size ∧ some x ≠ (Value.slice a l.length cp).ownBlock) →
    Calls Tryz.prog 83 #[.slice a l.length cp, .agg #[.pointer kf, .pointer kl], .int .i64 (depth : Nat)] w (Laid B (Value.slice a l.length cp).ownBlock (l ++ ptsNds depth ps) w) := by
  induction N using Nat.strongRecOn with
  | _ N ih =>
  intro ps hN B A kf kl a cp l depth w hB hown hl hd hk hA
  obtain ⟨i0, hi, hz0, hz1, hz2⟩ := info_parts Tryz.infoNode
  have hbA : Below w.heap.size w (w.alloc (.cells #[.pointer kf, .pointer kl] 135)) := (Below.refl _ _).alloc (Nat.le_refl _) _
  have hF := hid (first_any w.heap.size 0 (.pointer kf) (w.alloc (.cells #[.pointer kf, .pointer kl] 135)) (cell_blk (alloc_new _ _) 0 _ rfl) ⟨_, rfl⟩)
  have hltB := hid hown.lt
  have hstart : Hid (OwnsN B a cp l (w.alloc (.cells #[.pointer kf, .pointer kl] 135)) ∧ w.grownBy (w.alloc (.cells #[.pointer kf, .pointer kl] 135)) (Value.slice a l.length cp).ownBlock) := hid ⟨OwnsN.below hown hbA, grown_below hbA _⟩
  have hkH := hid hk
  have hAH := hid hA
  have ihH := hid ih
  have hlH := hid hl
  have hNH := hid hN
  clear hown hbA hk hA ih hl hN
  go_enter Tryz.func83, Tryz.ntmps83
  go_wp2_with fail
  refine hF.out.mono ?_
  rintro e w' ⟨rfl, rfl⟩
  go_wp2
  go_loopg [0, 7] ps.length (fun k s0 s7 wr => ∃ (dn rs : List Pt) (a' : Option Addr) (cp' : Nat) (v : Option Addr) (n' : Nat), s7 = .pointer v ∧ s0 = .slice a' n' cp' ∧ Hid (ps = dn ++ rs ∧ rs.length = k ∧ n' = (l ++ ptsNds depth dn).length ∧ OwnsN B a' cp' (l ++ ptsNds depth dn) wr ∧ w.grownBy wr (Value.slice a l.length cp).ownBlock ∧ (∀ g, (Value.slice a' (l ++ ptsNds depth dn).length cp').ownBlock = some g → (Value.slice a l.length cp).ownBlock = some g ∨ w.heap.size ≤ g) ∧ KRep w A v rs))
  case atStart =>
    refine ⟨[], ps, a, cp, kf, l.length, rfl, rfl, hid ⟨rfl, rfl, by simp [ptsNds], ?_, hstart.out.2, ?_, hkH.out⟩⟩
    · simpa [ptsNds] using hstart.out.1
    · intro g hg; left; simpa [ptsNds] using hg
  case round =>
    obtain ⟨dn, rs, a', cp', v, n', rfl, rfl, hrel'⟩ := hrel
    obtain ⟨hps, hrk, hn', hownr, hgr, hat0, hkr⟩ := hrel'.out
    clear hrel'
    cases hkr with
    | nil =>
      have hfin : Hid (Laid B (Value.slice a l.length cp).ownBlock (l ++ ptsNds depth ps) w (.returned (.slice a' n' cp')) wr) := hid (by
        rw [List.append_nil] at hps; subst hps
        exact ⟨a', cp', by rw [hn'], hownr, hgr, hat0⟩)
      clear hps hrk hn' hownr hgr hat0
      go_wp2
      go_ret
      exact hfin.out
    | cons e ah be r ha hb hke hr =>
      have hem := hAH.out e.m ha
      have hb' : wr.heap[e.m]? = some (.cells (memCells e ah be).toArray 179 (0, 0)) := (hgr.block e.m hem.1 hem.2).trans hb
      have hml : e.m < wr.heap.size := Nat.lt_of_lt_of_le hem.1 hgr.size
      obtain ⟨kd, hkd⟩ : ∃ x, e.p.kind = x := ⟨_, rfl⟩
      obtain ⟨inf, hinf⟩ : ∃ x, S.B e.p.info = x := ⟨_, rfl⟩
      obtain ⟨tx, htx⟩ : ∃ x, S.B e.p.text = x := ⟨_, rfl⟩
      obtain ⟨m, hm⟩ : ∃ m, e.m = m := ⟨_, rfl⟩
      obtain ⟨kf1, hkf1⟩ : ∃ x, e.kf = x := ⟨_, rfl⟩
      obtain ⟨kl1, hkl1⟩ : ∃ x, e.kl = x := ⟨_, rfl⟩
      obtain ⟨rz, hrz⟩ : ∃ x : Int, (e.p.rs : Int) = x := ⟨_, rfl⟩
      obtain ⟨ro, hro⟩ : ∃ x, e.p.ro = x := ⟨_, rfl⟩
      obtain ⟨rc, hrc⟩ : ∃ x, e.p.rc = x := ⟨_, rfl⟩
      have hnd : Hid (ptNd depth e.p = ⟨(depth : Int), kd, 0, inf, tx⟩) := hid (by unfold ptNd; rw [hkd, hinf, htx])
      have hcs : memCells e ah be = [.int .i64 kd, .string inf, .string tx, .pointer kf1, .pointer kl1, .int .i64 rz, .bool ro, .bool rc, .pointer ah, .pointer be] := by
        unfold memCells; rw [hkd, hinf, htx, hkf1, hkl1, hrz, hro, hrc]
      rw [hcs, hm] at hb'
      rw [hm] at hml
      have p0 : wr.cell? ⟨m, 0, none⟩ = some (.int .i64 kd) := cell_blk hb' 0 _ rfl
      have p1 : wr.cell? ⟨m, 1, none⟩ = some (.string inf) := cell_blk hb' 1 _ rfl
      have p2 : wr.cell? ⟨m, 2, none⟩ = some (.string tx) := cell_blk hb' 2 _ rfl
      have p3 : wr.cell? ⟨m, 3, none⟩ = some (.pointer kf1) := cell_blk hb' 3 _ rfl
      have p4 : wr.cell? ⟨m, 4, none⟩ = some (.pointer kl1) := cell_blk hb' 4 _ rfl
      have p5 : wr.cell? ⟨m, 5, none⟩ = some (.int .i64 rz) := cell_blk hb' 5 _ rfl
      have p6 : wr.cell? ⟨m, 6, none⟩ = some (.bool ro) := cell_blk hb' 6 _ rfl
      have p7 : wr.cell? ⟨m, 7, none⟩ = some (.bool rc) := cell_blk hb' 7 _ rfl
      have p9 : Hid (wr.cell? ⟨m, 9, none⟩ = some (.pointer be)) := hid (cell_blk hb' 9 _ rfl)
      have hv : (some e.ad : Option Addr) = some ⟨m, 0, none⟩ := by rw [Mem.ad, hm]
      obtain ⟨L, hL⟩ : ∃ L, L = l ++ ptsNds depth dn := ⟨_, rfl⟩
      rw [← hL] at hn' hownr hat0
      subst hn'
      have hLn : L.length + 1 + cntL e.p.kids ≤ 1000000 := by
        have := hlH.out
        rw [hps, ptsNds_append, ← List.append_assoc, ← hL, List.length_append, ptsNds_len, cntL_cons, cntP_eq] at this
        omega
      have hcK : cntL e.p.kids < N := by
        have := hNH.out
        rw [hps, cntL_append, cntL_cons, cntP_eq] at this
        omega
      have hownr2 := hid (fun o1 o2 => OwnsN.alloc (OwnsN.alloc hownr o1) o2)
      have hltr := hid hownr.lt
      have hall := hid (And.intro hps (And.intro hrk (And.intro hgr (And.intro hat0 (And.intro hke hr)))))
      have hLH := hid hL
      have hkf1H := hid hkf1
      have hmne := hid hem
      have hmH := hid hm
      have hb'H := hid hb'
      have hBr : B ≤ wr.heap.size := Nat.le_trans hB hgr.size
      have hbH := hid hb
      have hZ : w.heap.size ≤ wr.heap.size := hgr.size
      clear hps hrk hownr hgr hat0 hke hr hb hb' hem hcs hkd hinf htx hkl1 hrz hro hrc hkf1 hL hm
      rw [hv]
      clear hv
      have hnew : Hid (∀ X j u, (five ⟨(depth : Int), kd, 0, inf, tx⟩)[j]? = some u → ((wr.alloc X).alloc (.cells #[.int .i64 (depth : Int), .int .i64 kd, .int .i64 0, .string inf, .string tx] 36)).cell? ((⟨wr.heap.size + 1, 0, none⟩ : Addr).add j) = some u) := hid (by
        intro X j u hj
        have hsz : (wr.alloc X).heap.size = wr.heap.size + 1 := by simp
        have ha : (⟨wr.heap.size + 1, 0, none⟩ : Addr).add j = ⟨(wr.alloc X).heap.size, j, none⟩ := by
          rw [hsz]; simp only [Addr.add]; split
          · rename_i h; simp <;> omega
          · simp <;> omega
        rw [ha]
        exact cell_blk (alloc_new _ _) j u (by rw [← hj]; simp [five]))
      have hone : Hid (∀ u ∈ five ⟨(depth : Int), kd, 0, inf, tx⟩, u.oneCell' = true) := hid (by
        intro u hu; simp [five] at hu; rcases hu with rfl | rfl | rfl | rfl | rfl <;> rfl)
      go_wp2_with (at_builtin; refine wpList_append_lies _ (by rfl) _ _ 22 (by rfl) B 36 i0 (.agg #[.int .i64 0, .int .i64 0, .int .i64 0, .string ⟨#[]⟩, .string ⟨#[]⟩]) 5 56 Tryz.underlying22 hi hz0 hz1 hz2 (by rfl) (by omega) (.slice a' L.length cp') L.length (ndCells L) (by rfl) (hownr2.out _ _) ⟨wr.heap.size + 1, 0, none⟩ 1 1 (five ⟨(depth : Int), kd, 0, inf, tx⟩) (by rfl) (by rfl) (hnew.out _) hone.out (by omega) (by unfold maxLen; omega) (by omega) (by simp; omega) (wr.heap.size + 1 + 1) (by simp) ?_)
      intro g cap1 w3 hown3 hgrow hat hltg
      have hs3 := hgrow.size
      have hsz2 : ∀ o1 o2, ((wr.alloc o1).alloc o2).heap.size = wr.heap.size + 2 := by intro o1 o2; simp
      rw [hsz2] at hs3
      have hX : w3.heap[wr.heap.size]? = some (.cells #[.int .i64 kd, .string inf, .string tx, .pointer kf1, .pointer kl1, .int .i64 rz, .bool ro, .bool rc] 177 (0, 0)) := by
        rw [hgrow.block wr.heap.size (by rw [hsz2]; omega) (fun e => by have := hltr.out _ e.symm; omega), Below.heap_alloc _ _ _ (by simp)]
        exact alloc_new _ _
      have x3 : w3.cell? ⟨wr.heap.size, 3, none⟩ = some (.pointer kf1) := cell_blk hX 3 _ rfl
      have x4 : w3.cell? ⟨wr.heap.size, 4, none⟩ = some (.pointer kl1) := cell_blk hX 4 _ rfl
      have hg3 : wr.grownBy w3 (Value.slice a' L.length cp').ownBlock := grown_trans (grown_trans (World.grownBy_alloc _ _ _) (World.grownBy_alloc _ _ _) (fun g h => .inl h)) hgrow (fun g h => .inl h)
      obtain ⟨hps, hrk, hgr, hat0, hke, hr⟩ := hall.out
      have hgr3 : w.grownBy w3 (Value.slice a l.length cp).ownBlock := grown_trans hgr hg3 hat0
      have hat1 : ∀ g', (some g : Option Nat) = some g' → (Value.slice a l.length cp).ownBlock = some g' ∨ w.heap.size ≤ g' := fun g' h => by
        have : g = g' := by simpa using h
        subst this
        rcases hat with h | h
        · exact hat0 _ h
        · exact .inr (by omega)
      have hA3 : ∀ x, A x → x < w3.heap.size ∧ some x ≠ (some g : Option Nat) := fun x hx => ⟨Nat.lt_of_lt_of_le (hAH.out x hx).1 hgr3.size, fun h => by
        have : x = g := by simpa using h
        subst this
        rcases hat1 x rfl with h | h
        · exact (hAH.out x hx).2 h.symm
        · have := (hAH.out x hx).1; omega⟩
      have hk3 : KRep w3 A kf1 e.p.kids := by
        rw [← hkf1H.out]
        exact hke.move (fun x hx => hx) (fun x hx => hgr3.block x (hAH.out x hx).1 (hAH.out x hx).2)
      have hown4 : OwnsN B (some ⟨g, 0, none⟩) cap1 (L ++ [ptNd depth e.p]) w3 := by
        unfold OwnsN; rw [ndCells_snoc, List.length_append, hnd.out]; exact hown3
      have hIH := ihH.out (cntL e.p.kids) hcK e.p.kids (Nat.le_refl _) B A kf1 kl1 (some ⟨g, 0, none⟩) cap1 (L ++ [ptNd depth e.p]) (depth + 1) w3 (by omega) hown4 (by rw [List.length_append, List.length_append, ptsNds_len]; simp only [List.length_singleton]; omega) (by omega) hk3 (fun x hx => hA3 x hx)
      rw [show (L ++ [ptNd depth e.p]).length = L.length + 1 by simp, show ((depth + 1 : Nat) : Int) = (depth : Int) + 1 by omega] at hIH
      have hIHH := hid hIH
      have hm3 : w3.heap[m]? = some (.cells [.int .i64 kd, .string inf, .string tx, .pointer kf1, .pointer kl1, .int .i64 rz, .bool ro, .bool rc, .pointer ah, .pointer be].toArray 179 (0, 0)) := by
        rw [← hb'H.out, ← hmH.out, hgr3.block _ hmne.out.1 hmne.out.2, hgr.block _ hmne.out.1 hmne.out.2]
      have hmg : m < w3.heap.size ∧ some m ≠ (some g : Option Nat) := by rw [← hmH.out]; exact hA3 _ ha
      have hm3H := hid hm3
      have hLe : Hid ((L ++ [ptNd depth e.p]) ++ ptsNds (depth + 1) e.p.kids = l ++ ptsNds depth (dn ++ [e.p])) := hid (by
        rw [ptsNds_append, hLH.out]
        simp only [ptsNds, ptNds_eq, List.append_nil, List.append_assoc, List.cons_append, List.nil_append])
      have hall2 := hid (And.intro hgr3 hat1)
      have hlen4 : Hid (((L ++ [ptNd depth e.p]) ++ ptsNds (depth + 1) e.p.kids).length = L.length + 1 + cntL e.p.kids) := hid (by rw [List.length_append, List.length_append, ptsNds_len]; rfl)
      clear hown3 hgrow hat hltg hX hs3 hsz2 hg3 hps hrk hgr hat0 hke hr hgr3 hat1 hA3 hk3 hown4 hIH hm3
      go_wp2_with fail
      refine hIHH.out.mono ?_
      rintro e4 w4 ⟨a4, cp4, rfl, hown4, hg4, hat4⟩
      rw [hlen4.out]
      have hm4 : w4.heap[m]? = w3.heap[m]? := hg4.block m hmg.1 hmg.2
      have hBh := hid (behind_any m (.pointer be) w4 (cell_blk (hm4.trans hm3H.out) 9 _ rfl) ⟨_, rfl⟩)
      have hrel4 : Hid (OwnsN B a4 cp4 (l ++ ptsNds depth (dn ++ [e.p])) w4 ∧ w.grownBy w4 (Value.slice a l.length cp).ownBlock ∧ (∀ g', (Value.slice a4 (l ++ ptsNds depth (dn ++ [e.p])).length cp4).ownBlock = some g' → (Value.slice a l.length cp).ownBlock = some g' ∨ w.heap.size ≤ g')) := hid (by
        rw [← hLe.out]
        refine ⟨hown4, grown_trans hall2.out.1 hg4 (fun g' h => hall2.out.2 g' (by simpa [Value.ownBlock] using h)), fun g' h => ?_⟩
        rcases hat4 g' h with h | h
        · exact hall2.out.2 g' (by simpa [Value.ownBlock] using h)
        · exact .inr (Nat.le_trans hall2.out.1.size h))
      clear hown4 hg4 hat4 hm4
      go_wp2_with fail
      refine hBh.out.mono ?_
      rintro e5 w5 ⟨rfl, rfl⟩
      go_wp2
      go_roundg r.length
      case rel =>
        refine ⟨dn ++ [e.p], r, a4, cp4, be, _, rfl, rfl, hid ⟨by rw [hall.out.1]; simp, rfl, ?_, hrel4.out.1, hrel4.out.2.1, hrel4.out.2.2, hall.out.2.2.2.2.2⟩⟩
        rw [← hLe.out, hlen4.out]
      case measure =>
        have := hall.out.2.1
        simp at this; omega
end Go.Proofs.YtlojgpkajkedeaaGreatDoor
