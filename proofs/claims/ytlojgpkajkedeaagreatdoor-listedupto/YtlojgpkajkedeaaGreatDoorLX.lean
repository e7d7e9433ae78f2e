/- Listed: the walk. -/
import Derived.Test.YtlojgpkajkedeaaGreatDoorLW
import Derived.Laws.IdiomStrings
namespace Go.Proofs.YtlojgpkajkedeaaGreatDoor
open Go.RowKit

theorem bodyOf_listed (M p : List UInt8) (r : List (List UInt8)) : bodyOf (S.listRow M p r) = S.listedOf M p r := rfl
theorem listRow_get (M p : List UInt8) (r : List (List UInt8)) (k : Nat) (x : List UInt8) (h : (p :: r)[k]? = some x) (hk : 1 ≤ k) : (S.listRow M p r)[k]? = some (S.inn M.length x) := by
  obtain ⟨m, rfl⟩ : ∃ m, k = m + 1 := ⟨k - 1, by omega⟩
  rw [List.getElem?_cons_succ] at h
  unfold S.listRow
  rw [List.getElem?_cons_succ, List.getElem?_map, h]; rfl
theorem ownsN_far {B : Nat} {a : Option Addr} {cp : Nat} {l : List Nd} {w : World} (h : OwnsN B a cp l w) (N o : Nat) (v : Value) (hN : N < B) : OwnsN B a cp l (w.setCell ⟨N, o, none⟩ v) := by
  have hg : w.grownBy (w.setCell ⟨N, o, none⟩ v) (some N) := ⟨rfl, rfl, rfl, by simp [World.setCell], fun k _ hne => Below.heap_setCell _ _ _ _ (fun e => hne (by rw [e]))⟩
  refine World.ownsRow.kept h hg ?_
  cases ho : (Value.slice a l.length cp).ownBlock with
  | none => exact .inl rfl
  | some g => exact .inr (by have := (World.ownsRow.lt h g ho).1; simp; omega)

set_option maxRecDepth 100000 in
set_option maxHeartbeats 8000000 in
theorem listed_any (s : ByteArray) (num : Int) (w : World) (hs : s.size ≤ 1048576) (henv : Env w) :
    Calls Tryz.prog 7 #[.string s, .int .i64 num] w fun e w' => e = .returned (.bool true) ∧ Below w.heap.size w w' := by
  have hBl := hid (blocks_any w henv)
  have henvH := hid henv
  obtain ⟨i0, hi, hz0, hz1, hz2⟩ := info_parts Tryz.infoNode
  clear henv
  go_enter Tryz.func7, Tryz.ntmps7
  go_wp2_with fail
  refine hBl.out.mono ?_
  rintro e w1 ⟨rfl, hb1⟩
  have henv1 := hid (henvH.out.below hb1)
  have hb1H := hid hb1
  clear hb1
  have hLn := hid (lines_any s w1 hs)
  go_wp2_with fail
  refine hLn.out.mono ?_
  rintro e w2 ⟨os, a, cp, rfl, hdos, hown, hb2⟩
  have hcells : Hid (∀ k x, os[k]? = some x → ∃ g, a = some ⟨g, 0, none⟩ ∧ w2.cell? ⟨g, k, none⟩ = some (.string x)) := hid (fun k x hx => by
    have hlx := (List.getElem?_eq_some_iff.1 hx).1
    rcases hown.2 with ⟨h1, h2⟩ | ⟨g, cap, cur, h1, h2, h3, h4, h5, h6, h7⟩
    · omega
    · cases h1
      refine ⟨g, rfl, ?_⟩
      have hc : (os.map Value.string)[k]? = some (.string x) := by rw [List.getElem?_map, hx]; rfl
      have := hown.cells (g := g) rfl k _ hc
      have ha : (⟨g, 0, none⟩ : Addr).add k = ⟨g, k, none⟩ := by
        simp only [Addr.add]; split
        · rename_i h; simp <;> omega
        · simp <;> omega
      rw [← ha]; exact this)
  have hsum := S.lines_sum s.data.toList
  rw [← hdos.out, S.length_data, dat_length] at hsum
  have hxsz : Hid (∀ (k : Nat) (x : ByteArray), os[k]? = some x → x.size ≤ 1048577) := hid (fun k x hx => by
    have hm : x.data.toList ∈ dat os := List.mem_of_getElem? (by rw [dat_get, hx]; rfl)
    have h2 : ∀ L : List (List UInt8), ∀ y ∈ L, y.length ≤ bytes L := by
      intro L
      induction L with
      | nil => intro y hy; simp at hy
      | cons z t ih =>
        intro y hy
        simp only [bytes, List.map_cons, List.sum_cons] at *
        rcases List.mem_cons.1 hy with rfl | hy
        · omega
        · have := ih y hy; omega
    have := h2 _ _ hm
    rw [S.length_data] at this; omega)
  have henv2 := hid (henv1.out.below hb2)
  have hb2H := hid (hb1H.out.trans (hb2.mono hb1H.out.size))
  have hz2w : w.heap.size ≤ w2.heap.size := hb2H.out.size
  clear hown hb2
  cases os with
  | nil =>
    clear hcells hxsz hsum
    go_wp2
    go_ret
    exact ⟨rfl, hb2H.out⟩
  | cons xo ts =>
    obtain ⟨g, rfl, c0⟩ := hcells.out 0 xo rfl
    obtain ⟨xl, hxl⟩ : ∃ xl, (xo :: ts)[ts.length]? = some xl := ⟨(xo :: ts)[ts.length], List.getElem?_eq_getElem (by simp)⟩
    obtain ⟨g', hg', cl⟩ := hcells.out ts.length xl hxl
    obtain rfl : g = g' := by simpa using hg'
    have hsx := hxsz.out 0 xo rfl
    have hsl := hxsz.out ts.length xl hxl
    have hSp0 := hid (spaces_any xo w2 (by omega))
    have hSpl := hid (spaces_any xl w2 (by omega))
    have htl : ts.length ≤ 1048577 := by simp only [List.length_cons] at hsum; omega
    have hI0 : (0 : Int) ≤ (ts.length : Int) := by omega
    have hI1 : (ts.length : Int) < (ts.length : Int) + 1 := by omega
    have hIe : ((ts.length : Int) + 1 == 0) = false := by rw [beq_eq_false_iff_ne]; omega
    obtain ⟨k0, hk0⟩ : ∃ k0, S.indent xo.data.toList = k0 := ⟨_, rfl⟩
    obtain ⟨kl, hkl⟩ : ∃ kl, S.indent xl.data.toList = kl := ⟨_, rfl⟩
    rw [hk0] at hSp0
    rw [hkl] at hSpl
    have hk0H := hid hk0
    have hklH := hid hkl
    have hxlH := hid hxl
    have hsumH := hid hsum
    clear hg' hk0 hkl hxl hsum
    simp only [List.length_cons]
    go_wp2_with fail
    refine hSp0.out.mono ?_
    rintro e w' ⟨rfl, rfl⟩
    go_wp2_with fail
    refine hSpl.out.mono ?_
    rintro e w' ⟨rfl, rfl⟩
    by_cases hA : k0 = xo.size
    · have eA : ((k0 : Int) == (xo.size : Int)) = true := by rw [beq_iff_eq]; omega
      go_wp2
      go_ret
      exact ⟨rfl, hb2H.out⟩
    have eA : ((k0 : Int) == (xo.size : Int)) = false := by rw [beq_eq_false_iff_ne]; omega
    by_cases hB : kl = xl.size
    · have eB : ((kl : Int) == (xl.size : Int)) = true := by rw [beq_iff_eq]; omega
      go_wp2
      go_ret
      exact ⟨rfl, hb2H.out⟩
    have eB : ((kl : Int) == (xl.size : Int)) = false := by rw [beq_eq_false_iff_ne]; omega
    by_cases hC : 0 < k0 ∧ k0 < 4
    · have e1 : (0 : Int) < (k0 : Int) := by omega
      have e2 : (k0 : Int) < 4 := by omega
      go_wp2
      go_ret
      exact ⟨rfl, hb2H.out⟩
    have hbl : S.blank xo.data.toList = false := by
      unfold S.blank; rw [hk0H.out, S.length_data]; exact decide_eq_false hA
    have hind : S.indent xo.data.toList = 0 ∨ 4 ≤ S.indent xo.data.toList := by rw [hk0H.out]; omega
    have hbll : S.blank xl.data.toList = false := by
      unfold S.blank; rw [hklH.out, S.length_data]; exact decide_eq_false hB
    have hlast : ∀ q, (dat ts).getLast? = some q → S.blank q = false := fun q hq => by
      rw [List.getLast?_eq_getElem?, dat_length] at hq
      have hpos : 0 < ts.length := by
        have := (List.getElem?_eq_some_iff.1 hq).1; rw [dat_length] at this; omega
      have h1 : (xo :: ts)[ts.length]? = ts[ts.length - 1]? := by
        obtain ⟨m, hm⟩ : ∃ m, ts.length = m + 1 := ⟨ts.length - 1, by omega⟩
        rw [hm, List.getElem?_cons_succ]; rfl
      rw [dat_get, ← h1, hxlH.out] at hq
      have : xl.data.toList = q := by simpa using hq
      rw [← this]; exact hbll
    have hplain := hid (And.intro hbl (And.intro hind hlast))
    clear hbl hind hbll hlast
    have hgl : g < w2.heap.size := by
      rcases Nat.lt_or_ge g w2.heap.size with h' | h'
      · exact h'
      · simp [World.cell?, Array.getElem?_eq_none h'] at c0
    have hcw : Hid (∀ (wx : World), Below w2.heap.size w2 wx → ∀ k x, (xo :: ts)[k]? = some x → wx.cell? ⟨g, k, none⟩ = some (.string x)) := hid (fun wx hx k x hk => by
      obtain ⟨g1, h1, h2⟩ := hcells.out k x hk
      obtain rfl : g = g1 := by simpa using h1
      rw [hx.cell (p := ⟨g, k, none⟩) hgl]; exact h2)
    have hcA : ∀ ob, (w2.alloc ob).cell? ⟨g, 0, none⟩ = some (.string xo) := fun ob => hcw.out _ ((Below.refl _ _).alloc (Nat.le_refl _) _) 0 xo rfl
    have hcB : ∀ ob ob', ((w2.alloc ob).alloc ob').cell? ⟨g, 0, none⟩ = some (.string xo) := fun ob ob' => hcw.out _ (((Below.refl _ _).alloc (Nat.le_refl _) _).alloc (by simp) _) 0 xo rfl
    have hLs : Hid (S.lines s.data.toList = xo.data.toList :: dat ts) := hid hdos.out.symm
    have hk4 : (¬ (0 : Int) < (k0 : Int)) ∨ ((0 : Int) < (k0 : Int) ∧ ¬ (k0 : Int) < 4) := by omega
    rcases hk4 with e1 | ⟨e1, e2⟩
    · by_cases hn0 : 0 ≤ num
      · by_cases hn10 : num < 10
        · skip
          obtain ⟨c, hc⟩ : ∃ c : UInt8, (c.toNat : Int) = 48 + num := ⟨UInt8.ofNat (48 + num.toNat), by rw [UInt8.toNat_ofNat']; omega⟩
          have hcd : S.isDig c = true := by simp [S.isDig]; omega
          have hcn : ((c.toNat - 48 : Nat) : Int) = num := by omega
          have kc : (convert 45 9 (.slice (some ⟨w2.heap.size + 1, 0, none⟩) 3 3)).run Tryz.prog ((w2.alloc (.cells #[.int .i64 0, .int .i64 6, .int .i64 (-1), .string ⟨#[]⟩, .string ⟨#[]⟩, .int .i64 1, .int .i64 7, .int .i64 0, .string ⟨#[]⟩, .string ⟨#[]⟩] 36)).alloc (.cells #[.int .u8 (48 + num), .int .u8 41, .int .u8 32] 5)) = .ok (.string ⟨#[c, 41, 32]⟩) ((w2.alloc (.cells #[.int .i64 0, .int .i64 6, .int .i64 (-1), .string ⟨#[]⟩, .string ⟨#[]⟩, .int .i64 1, .int .i64 7, .int .i64 0, .string ⟨#[]⟩, .string ⟨#[]⟩] 36)).alloc (.cells #[.int .u8 (48 + num), .int .u8 41, .int .u8 32] 5)) := by
            refine run_convert_bytes_back _ 45 9 5 ⟨w2.heap.size + 1, 0, none⟩ 3 [c, 41, 32] Tryz.underlying45 Tryz.underlying5 Tryz.underlying9 ?_
            intro j hj
            have hsz : (w2.alloc (.cells #[.int .i64 0, .int .i64 6, .int .i64 (-1), .string ⟨#[]⟩, .string ⟨#[]⟩, .int .i64 1, .int .i64 7, .int .i64 0, .string ⟨#[]⟩, .string ⟨#[]⟩] 36)).heap.size = w2.heap.size + 1 := by simp
            have ha : (⟨w2.heap.size + 1, 0, none⟩ : Addr).add j = ⟨(w2.alloc (.cells #[.int .i64 0, .int .i64 6, .int .i64 (-1), .string ⟨#[]⟩, .string ⟨#[]⟩, .int .i64 1, .int .i64 7, .int .i64 0, .string ⟨#[]⟩, .string ⟨#[]⟩] 36)).heap.size, j, none⟩ := by
              rw [hsz]; simp only [Addr.add]; split
              · rename_i h; simp <;> omega
              · simp <;> omega
            rw [ha]
            refine cell_blk (alloc_new _ _) j _ ?_
            match j, hj with
            | 0, _ => show some (Value.int .u8 (48 + num)) = some (.int .u8 (c.toNat : Int)); rw [hc]
            | 1, _ => rfl
            | 2, _ => rfl
            | j + 3, hj => simp at hj; omega
          have hcdH := hid hcd
          have hcnH := hid hcn
          clear hc
          go_wp2
          obtain ⟨W, hW⟩ : ∃ W, W = ((w2.alloc (.cells #[.int .i64 0, .int .i64 6, .int .i64 num, .string ⟨#[]⟩, .string ⟨#[]⟩, .int .i64 1, .int .i64 7, .int .i64 0, .string ⟨#[]⟩, .string ⟨#[]⟩] 36)).alloc (.cells #[.int .u8 (48 + num), .int .u8 41, .int .u8 32] 5)) := ⟨_, rfl⟩
          have hbW : Below w2.heap.size w2 W := by rw [hW]; exact ((Below.refl _ _).alloc (Nat.le_refl _) _).alloc (by simp) _
          have hNW : W.heap[w2.heap.size]? = some (.cells #[.int .i64 0, .int .i64 6, .int .i64 num, .string ⟨#[]⟩, .string ⟨#[]⟩, .int .i64 1, .int .i64 7, .int .i64 0, .string ⟨#[]⟩, .string ⟨#[]⟩] 36 (0, 0)) := by
            rw [hW]; rw [Below.heap_alloc _ _ _ (by simp)]; exact alloc_new _ _
          rw [← hW]
          obtain ⟨M, hMM⟩ : ∃ M : List UInt8, M = [c, 41, 32] := ⟨_, rfl⟩
          have hMk : S.Marks M num 41 := by rw [hMM]; exact (by have h := S.marks_dig c hcd; rwa [hcn] at h)
          have hMl : M.length = 3 := by rw [hMM]; rfl
          have hMb : Hid (S.B M = ⟨#[c, 41, 32]⟩) := hid (by rw [hMM]; rfl)
          have hIn : Hid (∀ x : ByteArray, ⟨#[32, 32, 32]⟩ ++ x = S.B (S.inn M.length x.data.toList)) := hid (fun x => by
            rw [hMl]; conv => lhs; rw [← S.B_data x]
            exact (B_append (List.replicate 3 32) x.data.toList))
          obtain ⟨L, hLL⟩ : ∃ L, L = S.listRow M xo.data.toList (dat ts) := ⟨_, rfl⟩
          have hLlen : L.length = ts.length + 1 := by rw [hLL, S.listRow_len, dat_length]
          have hqlen : (bodyOf L).length = bytes (xo.data.toList :: dat ts) + (ts.length + 1) + 3 * (ts.length + 1) := by
            rw [hLL, bodyOf_listed, S.listedOf_len, dat_length, hMl]
          have hby : bytes (dat (xo :: ts)) = bytes (xo.data.toList :: dat ts) := rfl
          have hsm0 := hsumH.out
          simp only [List.length_cons] at hsm0
          rw [hby] at hsm0
          have hbig : (bodyOf L).length ≤ 8000000 := by omega
          have hstart : Hid (⟨#[c, 41, 32]⟩ ++ xo ++ ⟨#[10]⟩ = S.B (bodyOf (L.take 1))) := hid (by
            rw [← hMb.out]
            conv => lhs; rw [← S.B_data xo]
            rw [B_append, B_push, hLL]
            simp [S.listRow, bodyOf])
          have hnext : Hid (∀ k x, 1 ≤ k → (xo :: ts)[k]? = some x → S.B (bodyOf (L.take k)) ++ ⟨#[32, 32, 32]⟩ ++ x ++ ⟨#[10]⟩ = S.B (bodyOf (L.take (k + 1)))) := hid (fun k x hk hx => by
            have hd : (xo.data.toList :: dat ts)[k]? = some x.data.toList := by
              rw [show xo.data.toList :: dat ts = dat (xo :: ts) from rfl, dat_get, hx]; rfl
            have hg := listRow_get M _ _ k _ hd hk
            rw [← hLL] at hg
            have e : S.B (bodyOf (L.take k)) ++ ⟨#[32, 32, 32]⟩ ++ x ++ ⟨#[10]⟩ = (S.B (bodyOf (L.take k)) ++ (⟨#[32, 32, 32]⟩ ++ x)) ++ ⟨#[10]⟩ := congrArg (fun z => z ++ (⟨#[10]⟩ : ByteArray)) ByteArray.append_assoc
            rw [e, bodyOf_snoc _ _ _ hg, hIn.out x, B_append, B_push, List.append_assoc])
          have hfin : Hid (bodyOf (L.take (ts.length + 1)) = S.listedOf M xo.data.toList (dat ts)) := hid (by rw [← hLlen, List.take_length, hLL]; rfl)
          have htk : Hid (∀ k, (bodyOf (L.take k)).length ≤ (bodyOf L).length) := hid (fun k => bodyOf_take_le L k)
          have hbWH := hid hbW
          have hNWH := hid hNW
          have hcW := hid (hcw.out W hbW)
          have hMkH := hid hMk
          have hqlH := hid (And.intro hqlen hsm0)
          have hzW : w2.heap.size < W.heap.size := (Array.getElem?_eq_some_iff.1 hNW).1
          clear hW hbW hNW hMM hMk hLL hqlen hby hsm0 hLlen
          rw [hstart.out]
          go_loop [13, 14] (fun t i => ∃ k : Nat, 1 ≤ k ∧ k ≤ ts.length + 1 ∧ t = .string (S.B (bodyOf (L.take k))) ∧ i = .int .i64 k) (fun _ i => ts.length + 1 - (intOf i).toNat)
          case atStart => exact ⟨1, Nat.le_refl _, by omega, rfl, rfl⟩
          case round =>
            obtain ⟨k, hk1, hk, rfl, rfl⟩ := hrel
            have hbs : (S.B (bodyOf (L.take k))).size ≤ 8000000 := by rw [S.size_B]; have := htk.out k; omega
            by_cases hlt : k < ts.length + 1
            · obtain ⟨x, hx⟩ : ∃ x, (xo :: ts)[k]? = some x := ⟨(xo :: ts)[k], List.getElem?_eq_getElem (by simp only [List.length_cons]; omega)⟩
              have hcell := hcW.out k x hx
              have hsxk := hxsz.out k x hx
              have hnx := hid (hnext.out k x hk1 hx)
              have hlti : (k : Int) < (ts.length : Int) + 1 := by omega
              have hk0i : (0 : Int) ≤ (k : Int) := by omega
              clear hx
              go_wp2
              go_round
              case rel => exact ⟨k + 1, by omega, by omega, by rw [hnx.out], by go_num⟩
              case measure => simp [intOf]; omega
            · obtain rfl : k = ts.length + 1 := by omega
              have hlti : ¬ (ts.length : Int) + 1 < (ts.length : Int) + 1 := by omega
              obtain ⟨q, hq⟩ : ∃ q, S.B (bodyOf (L.take (ts.length + 1))) = q := ⟨_, rfl⟩
              have hqd : Hid (q.data.toList = S.listedOf M xo.data.toList (dat ts)) := hid (by rw [← hq, S.data_B]; exact hfin.out)
              have hqz : q.size = bytes (xo.data.toList :: dat ts) + (ts.length + 1) + 3 * (ts.length + 1) := by
                rw [← S.length_data, hqd.out, S.listedOf_len, dat_length, hMl]
              rw [hq] at hbs ⊢
              clear hq
              by_cases h15 : 1500 < q.size
              · have h15i : (1500 : Int) < (q.size : Int) := by omega
                clear hqz
                go_wp2
                go_ret
                exact ⟨rfl, hb2H.out.trans (hbWH.out.mono hz2w)⟩
              · have h15i : ¬ (1500 : Int) < (q.size : Int) := by omega
                have hss : s.size ≤ 1500 := by have := hqlH.out.2; omega
                have hT1 := hid (tree_all s W hss (henv2.out.below hbWH.out))
                have hT2 := hid (fun (wx : World) (hx : Below W.heap.size W wx) => tree_all q wx (by omega) ((henv2.out.below hbWH.out).below hx))
                obtain ⟨lo, hlo⟩ := nodes_listed M num 41 hMkH.out s.data.toList xo.data.toList (dat ts) hLs.out hplain.out.1 hplain.out.2.1 hplain.out.2.2
                rw [deep_deep, ← hqd.out] at hlo
                have hdp : Hid (∀ x ∈ nodesOf s.data.toList, 0 ≤ x.depth ∧ x.depth < 1000000) := hid (fun x hx => by
                  have := nodesOf_depth _ x hx
                  rw [S.length_data] at this
                  exact ⟨this.1, by omega⟩)
                have hnl := nodesOf_len s.data.toList
                rw [S.length_data] at hnl
                obtain ⟨N, hNN⟩ : ∃ N, nodesOf s.data.toList = N := ⟨_, rfl⟩
                rw [hNN] at hT1 hlo hdp hnl
                rw [hlo] at hT2
                simp only [List.length_cons, List.length_map] at hT2
                have hNl : N.length ≤ 30010 := by omega
                clear hNN hqz hnl hlo
                go_wp2_with fail
                refine hT1.out.mono ?_
                rintro e w3 ⟨B1, a1, cp1, rfl, hB1, hown1, hb3⟩
                have hown1H := hid hown1
                have hb3H := hid hb3
                have hT2' := hid (hT2.out w3 hb3)
                have hz3 : W.heap.size ≤ w3.heap.size := hb3.size
                clear hown1 hb3
                go_wp2_with fail
                refine hT2'.out.mono ?_
                rintro e w4 ⟨B2, a2, cp2, rfl, hB2, hown2, hb4⟩
                have hown2H := hid hown2
                obtain ⟨g2, rfl, hg2, hg2l, t0, t1, t2, t3, t4'⟩ := ownsN_at hown2 0 (listNd num lo) rfl
                have t4 : w4.cell? ⟨g2, 4, none⟩ = some (.string (spacingOf lo)) := t4'
                clear t0 t1 t2 t3 t4'
                have hb4H := hid hb4
                have hz4 : w3.heap.size ≤ w4.heap.size := hb4.size
                have hN4 : w4.heap[w2.heap.size]? = some (.cells #[.int .i64 0, .int .i64 6, .int .i64 num, .string ⟨#[]⟩, .string ⟨#[]⟩, .int .i64 1, .int .i64 7, .int .i64 0, .string ⟨#[]⟩, .string ⟨#[]⟩] 36 (0, 0)) := by
                  rw [hb4.block _ (by omega), hb3H.out.block _ hzW]; exact hNWH.out
                have d4 : w4.cell? ⟨w2.heap.size, 4, none⟩ = some (.string ⟨#[]⟩) := cell_blk hN4 4 _ rfl
                have df := free_blk hN4
                have hN4H := hid hN4
                have hb24H : Hid (Below w2.heap.size w2 w4) := hid (hbWH.out.trans ((hb3H.out.mono (by omega)).trans (hb4.mono (by omega))))
                have hlb : (0 : Int) < (N.length : Int) + 1 + 1 := by omega
                have hlb0 : (0 : Int) ≤ 0 := by omega
                clear hown2 hb4 hN4
                cases lo with
                | true =>
                  have hloE : spacingOf true = ⟨#[108, 111, 111, 115, 101]⟩ := rfl
                  rw [hloE] at t4
                  have hleq : ((⟨#[108, 111, 111, 115, 101]⟩ : ByteArray).toList == [108, 111, 111, 115, 101]) = true := by kernel_rfl
                  clear hloE
                  obtain ⟨W5, hW5⟩ : ∃ W5, W5 = w4.setCell ⟨w2.heap.size, 4, none⟩ (.string ⟨#[108, 111, 111, 115, 101]⟩) := ⟨_, rfl⟩
                  have hN5 : W5.heap[w2.heap.size]? = some (.cells #[.int .i64 0, .int .i64 6, .int .i64 num, .string ⟨#[]⟩, .string ⟨#[108, 111, 111, 115, 101]⟩, .int .i64 1, .int .i64 7, .int .i64 0, .string ⟨#[]⟩, .string ⟨#[]⟩] 36 (0, 0)) := by
                    rw [hW5]; exact set_blk hN4H.out 4 (.string ⟨#[108, 111, 111, 115, 101]⟩)
                  have hs5 : W5.heap.size = w4.heap.size := by rw [hW5]; simp [World.setCell]
                  have hown15 : OwnsN B1 a1 cp1 N W5 := by rw [hW5]; exact ownsN_far (hown1H.out.below hb4H.out) _ _ _ (by omega)
                  have hown25 : OwnsN B2 (some ⟨g2, 0, none⟩) cp2 (listNd num true :: itemNd :: N.map Nd.deep2) W5 := by rw [hW5]; exact ownsN_far hown2H.out _ _ _ (by omega)
                  have hownW : OwnsN w2.heap.size (some ⟨w2.heap.size, 0, none⟩) 2 [listNd num true, itemNd] W5 := by
                    refine ⟨rfl, .inr ⟨w2.heap.size, 2, _, rfl, Nat.le_refl _, hN5, Nat.le_refl _, by decide, rfl, rfl⟩⟩
                  have hb5 : Below w2.heap.size w2 W5 := by rw [hW5]; exact (hb24H.out).setCell (Nat.le_refl _) _
                  have hD := hid (deeper_two B1 a1 cp1 N W5 hown15 (by omega) hdp.out)
                  have hown25H := hid hown25
                  have hownWH := hid hownW
                  have hb5H := hid hb5
                  have hs5H := hid hs5
                  clear hown15 hown25 hownW hb5 hN5 hs5
                  go_wp2_with fail
                  rw [← hW5]
                  clear hW5
                  refine hD.out.mono ?_
                  rintro e w5 ⟨a5, cp5, rfl, hown5, hb55, h50⟩
                  have hs5' := hs5H.out
                  have hz5 : w4.heap.size ≤ w5.heap.size := by have := hb55.size; omega
                  have hownW5 : OwnsN w2.heap.size (some ⟨w2.heap.size, 0, none⟩) 2 [listNd num true, itemNd] w5 := hownWH.out.below hb55
                  have hown255 : OwnsN B2 (some ⟨g2, 0, none⟩) cp2 (listNd num true :: itemNd :: N.map Nd.deep2) w5 := hown25H.out.below hb55
                  have hb25 : Below w2.heap.size w2 w5 := hb5H.out.trans (hb55.mono (by omega))
                  have hbase : w2.heap.size ≤ w5.heap.size := hb25.size
                  by_cases hN0 : N = []
                  · subst hN0
                    obtain ⟨rfl, rfl⟩ := h50 rfl
                    have hSm := hid (same_true B2 w2.heap.size (some ⟨g2, 0, none⟩) (some ⟨w2.heap.size, 0, none⟩) cp2 2 [listNd num true, itemNd] w5 hown255 hownW5 (by simp))
                    have hownWH5 := hid hownW5
                    have hb25H := hid hb25
                    clear hs5' hb25 hownW5 hown255 hown5 hb55 h50 hD
                    go_wp2_with (at_builtin; refine wpList_append_own_none _ (by rfl) _ _ 22 (by rfl) w2.heap.size 36 i0 5 Tryz.underlying22 hi (.slice (some ⟨w2.heap.size, 0, none⟩) 2 2) 2 (ndCells [listNd num true, itemNd]) (by rfl) hownWH5.out (by rfl) ?_)
                    refine hSm.out.mono ?_
                    rintro e w6 ⟨rfl, hb6⟩
                    have hb6H := hid (hb25H.out.trans (hb6.mono hbase))
                    clear hb6
                    go_wp2
                    go_ret
                    exact ⟨rfl, hb2H.out.trans (hb6H.out.mono hz2w)⟩
                  · have hNpos : 0 < N.length := List.length_pos_iff.2 hN0
                    obtain ⟨g5, rfl, hg5, hcp5, _⟩ := OwnsN.some hown5 (by rw [List.length_map]; exact hNpos)
                    have hnews : Hid (∀ j u, (ndCells (N.map Nd.deep2))[j]? = some u → w5.cell? ((⟨g5, 0, none⟩ : Addr).add j) = some u) := hid (fun j u hu => World.ownsRow.cells hown5 (g := g5) rfl j u hu)
                    have hlen5 : Hid ((ndCells (N.map Nd.deep2)).length = N.length * 5) := hid (by have := hown5.1; rwa [List.length_map] at this)
                    have hone : Hid (∀ u ∈ ndCells (N.map Nd.deep2), u.oneCell' = true) := hid (by
                      intro u hu
                      unfold ndCells at hu
                      obtain ⟨c, hc, huc⟩ := List.mem_flatten.1 hu
                      obtain ⟨x, _, rfl⟩ := List.mem_map.1 hc
                      simp [five] at huc; rcases huc with rfl | rfl | rfl | rfl | rfl <;> rfl)
                    have hownWH5 := hid hownW5
                    have hown255H := hid hown255
                    have hb25H := hid hb25
                    have hB2g : Hid (∀ gq, (some g2 : Option Nat) = some gq → gq ≠ w2.heap.size) := hid (fun gq h => by
                      have : g2 = gq := by simpa using h
                      omega)
                    clear hs5' hb25 hownW5 hown255 hown5 hb55 h50 hD hcp5
                    go_wp2_with (at_builtin; refine wpList_append_lies _ (by rfl) _ _ 22 (by rfl) w2.heap.size 36 i0 (.agg #[.int .i64 0, .int .i64 0, .int .i64 0, .string ⟨#[]⟩, .string ⟨#[]⟩]) 5 56 Tryz.underlying22 hi hz0 hz1 hz2 (by rfl) (by omega) (.slice (some ⟨w2.heap.size, 0, none⟩) 2 2) 2 (ndCells [listNd num true, itemNd]) (by rfl) hownWH5.out ⟨g5, 0, none⟩ N.length cp5 (ndCells (N.map Nd.deep2)) (by rfl) hlen5.out hnews.out hone.out hNpos (by unfold maxLen; omega) (by omega) hbase w5.heap.size (by rfl) ?_)
                    intro gn cap1 w6 hown6 hgrow hat hltg
                    have hb26 : Below w2.heap.size w2 w6 := Below.grown hb25H.out hgrow hbase (fun q hq => by
                      have : w2.heap.size = q := by simpa [Value.ownBlock] using hq
                      omega)
                    have hown6' : OwnsN w2.heap.size (some ⟨gn, 0, none⟩) cap1 (listNd num true :: itemNd :: N.map Nd.deep2) w6 := by
                      unfold OwnsN
                      rw [show listNd num true :: itemNd :: N.map Nd.deep2 = [listNd num true, itemNd] ++ N.map Nd.deep2 from rfl, List.length_append, List.length_map, show ndCells ([listNd num true, itemNd] ++ N.map Nd.deep2) = ndCells [listNd num true, itemNd] ++ ndCells (N.map Nd.deep2) by simp [ndCells]]
                      exact hown6
                    have hown26 : OwnsN B2 (some ⟨g2, 0, none⟩) cp2 (listNd num true :: itemNd :: N.map Nd.deep2) w6 := by
                      refine World.ownsRow.kept hown255H.out hgrow (.inr ?_)
                      show (some g2 : Option Nat) ≠ some w2.heap.size
                      exact fun e => hB2g.out _ rfl (by simpa using e)
                    have hSm := hid (same_true B2 w2.heap.size (some ⟨g2, 0, none⟩) (some ⟨gn, 0, none⟩) cp2 cap1 (listNd num true :: itemNd :: N.map Nd.deep2) w6 hown26 hown6' (by simp only [List.length_cons, List.length_map]; omega))
                    simp only [List.length_cons, List.length_map] at hSm
                    have hb26H := hid hb26
                    have hadd : 2 + N.length = N.length + 1 + 1 := by omega
                    have hz6 : w2.heap.size ≤ w6.heap.size := hb26.size
                    clear hown6 hgrow hat hltg hb26 hown6' hown26
                    rw [hadd]
                    go_wp2_with fail
                    refine hSm.out.mono ?_
                    rintro e w7 ⟨rfl, hb7⟩
                    have hb7H := hid (hb26H.out.trans (hb7.mono hz6))
                    clear hb7
                    go_wp2
                    go_ret
                    exact ⟨rfl, hb2H.out.trans (hb7H.out.mono hz2w)⟩
                | false =>
                  have hloE : spacingOf false = ⟨#[116, 105, 103, 104, 116]⟩ := rfl
                  rw [hloE] at t4
                  have hleq : ((⟨#[116, 105, 103, 104, 116]⟩ : ByteArray).toList == [108, 111, 111, 115, 101]) = false := by kernel_rfl
                  clear hloE
                  obtain ⟨W5, hW5⟩ : ∃ W5, W5 = w4.setCell ⟨w2.heap.size, 4, none⟩ (.string ⟨#[116, 105, 103, 104, 116]⟩) := ⟨_, rfl⟩
                  have hN5 : W5.heap[w2.heap.size]? = some (.cells #[.int .i64 0, .int .i64 6, .int .i64 num, .string ⟨#[]⟩, .string ⟨#[116, 105, 103, 104, 116]⟩, .int .i64 1, .int .i64 7, .int .i64 0, .string ⟨#[]⟩, .string ⟨#[]⟩] 36 (0, 0)) := by
                    rw [hW5]; exact set_blk hN4H.out 4 (.string ⟨#[116, 105, 103, 104, 116]⟩)
                  have hs5 : W5.heap.size = w4.heap.size := by rw [hW5]; simp [World.setCell]
                  have hown15 : OwnsN B1 a1 cp1 N W5 := by rw [hW5]; exact ownsN_far (hown1H.out.below hb4H.out) _ _ _ (by omega)
                  have hown25 : OwnsN B2 (some ⟨g2, 0, none⟩) cp2 (listNd num false :: itemNd :: N.map Nd.deep2) W5 := by rw [hW5]; exact ownsN_far hown2H.out _ _ _ (by omega)
                  have hownW : OwnsN w2.heap.size (some ⟨w2.heap.size, 0, none⟩) 2 [listNd num false, itemNd] W5 := by
                    refine ⟨rfl, .inr ⟨w2.heap.size, 2, _, rfl, Nat.le_refl _, hN5, Nat.le_refl _, by decide, rfl, rfl⟩⟩
                  have hb5 : Below w2.heap.size w2 W5 := by rw [hW5]; exact (hb24H.out).setCell (Nat.le_refl _) _
                  have hD := hid (deeper_two B1 a1 cp1 N W5 hown15 (by omega) hdp.out)
                  have hown25H := hid hown25
                  have hownWH := hid hownW
                  have hb5H := hid hb5
                  have hs5H := hid hs5
                  clear hown15 hown25 hownW hb5 hN5 hs5
                  go_wp2_with fail
                  rw [← hW5]
                  clear hW5
                  refine hD.out.mono ?_
                  rintro e w5 ⟨a5, cp5, rfl, hown5, hb55, h50⟩
                  have hs5' := hs5H.out
                  have hz5 : w4.heap.size ≤ w5.heap.size := by have := hb55.size; omega
                  have hownW5 : OwnsN w2.heap.size (some ⟨w2.heap.size, 0, none⟩) 2 [listNd num false, itemNd] w5 := hownWH.out.below hb55
                  have hown255 : OwnsN B2 (some ⟨g2, 0, none⟩) cp2 (listNd num false :: itemNd :: N.map Nd.deep2) w5 := hown25H.out.below hb55
                  have hb25 : Below w2.heap.size w2 w5 := hb5H.out.trans (hb55.mono (by omega))
                  have hbase : w2.heap.size ≤ w5.heap.size := hb25.size
                  by_cases hN0 : N = []
                  · subst hN0
                    obtain ⟨rfl, rfl⟩ := h50 rfl
                    have hSm := hid (same_true B2 w2.heap.size (some ⟨g2, 0, none⟩) (some ⟨w2.heap.size, 0, none⟩) cp2 2 [listNd num false, itemNd] w5 hown255 hownW5 (by simp))
                    have hownWH5 := hid hownW5
                    have hb25H := hid hb25
                    clear hs5' hb25 hownW5 hown255 hown5 hb55 h50 hD
                    go_wp2_with (at_builtin; refine wpList_append_own_none _ (by rfl) _ _ 22 (by rfl) w2.heap.size 36 i0 5 Tryz.underlying22 hi (.slice (some ⟨w2.heap.size, 0, none⟩) 2 2) 2 (ndCells [listNd num false, itemNd]) (by rfl) hownWH5.out (by rfl) ?_)
                    refine hSm.out.mono ?_
                    rintro e w6 ⟨rfl, hb6⟩
                    have hb6H := hid (hb25H.out.trans (hb6.mono hbase))
                    clear hb6
                    go_wp2
                    go_ret
                    exact ⟨rfl, hb2H.out.trans (hb6H.out.mono hz2w)⟩
                  · have hNpos : 0 < N.length := List.length_pos_iff.2 hN0
                    obtain ⟨g5, rfl, hg5, hcp5, _⟩ := OwnsN.some hown5 (by rw [List.length_map]; exact hNpos)
                    have hnews : Hid (∀ j u, (ndCells (N.map Nd.deep2))[j]? = some u → w5.cell? ((⟨g5, 0, none⟩ : Addr).add j) = some u) := hid (fun j u hu => World.ownsRow.cells hown5 (g := g5) rfl j u hu)
                    have hlen5 : Hid ((ndCells (N.map Nd.deep2)).length = N.length * 5) := hid (by have := hown5.1; rwa [List.length_map] at this)
                    have hone : Hid (∀ u ∈ ndCells (N.map Nd.deep2), u.oneCell' = true) := hid (by
                      intro u hu
                      unfold ndCells at hu
                      obtain ⟨c, hc, huc⟩ := List.mem_flatten.1 hu
                      obtain ⟨x, _, rfl⟩ := List.mem_map.1 hc
                      simp [five] at huc; rcases huc with rfl | rfl | rfl | rfl | rfl <;> rfl)
                    have hownWH5 := hid hownW5
                    have hown255H := hid hown255
                    have hb25H := hid hb25
                    have hB2g : Hid (∀ gq, (some g2 : Option Nat) = some gq → gq ≠ w2.heap.size) := hid (fun gq h => by
                      have : g2 = gq := by simpa using h
                      omega)
                    clear hs5' hb25 hownW5 hown255 hown5 hb55 h50 hD hcp5
                    go_wp2_with (at_builtin; refine wpList_append_lies _ (by rfl) _ _ 22 (by rfl) w2.heap.size 36 i0 (.agg #[.int .i64 0, .int .i64 0, .int .i64 0, .string ⟨#[]⟩, .string ⟨#[]⟩]) 5 56 Tryz.underlying22 hi hz0 hz1 hz2 (by rfl) (by omega) (.slice (some ⟨w2.heap.size, 0, none⟩) 2 2) 2 (ndCells [listNd num false, itemNd]) (by rfl) hownWH5.out ⟨g5, 0, none⟩ N.length cp5 (ndCells (N.map Nd.deep2)) (by rfl) hlen5.out hnews.out hone.out hNpos (by unfold maxLen; omega) (by omega) hbase w5.heap.size (by rfl) ?_)
                    intro gn cap1 w6 hown6 hgrow hat hltg
                    have hb26 : Below w2.heap.size w2 w6 := Below.grown hb25H.out hgrow hbase (fun q hq => by
                      have : w2.heap.size = q := by simpa [Value.ownBlock] using hq
                      omega)
                    have hown6' : OwnsN w2.heap.size (some ⟨gn, 0, none⟩) cap1 (listNd num false :: itemNd :: N.map Nd.deep2) w6 := by
                      unfold OwnsN
                      rw [show listNd num false :: itemNd :: N.map Nd.deep2 = [listNd num false, itemNd] ++ N.map Nd.deep2 from rfl, List.length_append, List.length_map, show ndCells ([listNd num false, itemNd] ++ N.map Nd.deep2) = ndCells [listNd num false, itemNd] ++ ndCells (N.map Nd.deep2) by simp [ndCells]]
                      exact hown6
                    have hown26 : OwnsN B2 (some ⟨g2, 0, none⟩) cp2 (listNd num false :: itemNd :: N.map Nd.deep2) w6 := by
                      refine World.ownsRow.kept hown255H.out hgrow (.inr ?_)
                      show (some g2 : Option Nat) ≠ some w2.heap.size
                      exact fun e => hB2g.out _ rfl (by simpa using e)
                    have hSm := hid (same_true B2 w2.heap.size (some ⟨g2, 0, none⟩) (some ⟨gn, 0, none⟩) cp2 cap1 (listNd num false :: itemNd :: N.map Nd.deep2) w6 hown26 hown6' (by simp only [List.length_cons, List.length_map]; omega))
                    simp only [List.length_cons, List.length_map] at hSm
                    have hb26H := hid hb26
                    have hadd : 2 + N.length = N.length + 1 + 1 := by omega
                    have hz6 : w2.heap.size ≤ w6.heap.size := hb26.size
                    clear hown6 hgrow hat hltg hb26 hown6' hown26
                    rw [hadd]
                    go_wp2_with fail
                    refine hSm.out.mono ?_
                    rintro e w7 ⟨rfl, hb7⟩
                    have hb7H := hid (hb26H.out.trans (hb7.mono hz6))
                    clear hb7
                    go_wp2
                    go_ret
                    exact ⟨rfl, hb2H.out.trans (hb7H.out.mono hz2w)⟩
        · skip
          go_wp2
          obtain ⟨W, hW⟩ : ∃ W, W = (w2.alloc (.cells #[.int .i64 0, .int .i64 6, .int .i64 (-1), .string ⟨#[]⟩, .string ⟨#[]⟩, .int .i64 1, .int .i64 7, .int .i64 0, .string ⟨#[]⟩, .string ⟨#[]⟩] 36)) := ⟨_, rfl⟩
          have hbW : Below w2.heap.size w2 W := by rw [hW]; exact (Below.refl _ _).alloc (Nat.le_refl _) _
          have hNW : W.heap[w2.heap.size]? = some (.cells #[.int .i64 0, .int .i64 6, .int .i64 (-1), .string ⟨#[]⟩, .string ⟨#[]⟩, .int .i64 1, .int .i64 7, .int .i64 0, .string ⟨#[]⟩, .string ⟨#[]⟩] 36 (0, 0)) := by
            rw [hW]; exact alloc_new _ _
          rw [← hW]
          obtain ⟨M, hMM⟩ : ∃ M : List UInt8, M = [43, 32] := ⟨_, rfl⟩
          have hMk : S.Marks M (-1) 43 := by rw [hMM]; exact S.marks_plus
          have hMl : M.length = 2 := by rw [hMM]; rfl
          have hMb : Hid (S.B M = ⟨#[43, 32]⟩) := hid (by rw [hMM]; rfl)
          have hIn : Hid (∀ x : ByteArray, ⟨#[32, 32]⟩ ++ x = S.B (S.inn M.length x.data.toList)) := hid (fun x => by
            rw [hMl]; conv => lhs; rw [← S.B_data x]
            exact (B_append (List.replicate 2 32) x.data.toList))
          obtain ⟨L, hLL⟩ : ∃ L, L = S.listRow M xo.data.toList (dat ts) := ⟨_, rfl⟩
          have hLlen : L.length = ts.length + 1 := by rw [hLL, S.listRow_len, dat_length]
          have hqlen : (bodyOf L).length = bytes (xo.data.toList :: dat ts) + (ts.length + 1) + 2 * (ts.length + 1) := by
            rw [hLL, bodyOf_listed, S.listedOf_len, dat_length, hMl]
          have hby : bytes (dat (xo :: ts)) = bytes (xo.data.toList :: dat ts) := rfl
          have hsm0 := hsumH.out
          simp only [List.length_cons] at hsm0
          rw [hby] at hsm0
          have hbig : (bodyOf L).length ≤ 8000000 := by omega
          have hstart : Hid (⟨#[43, 32]⟩ ++ xo ++ ⟨#[10]⟩ = S.B (bodyOf (L.take 1))) := hid (by
            rw [← hMb.out]
            conv => lhs; rw [← S.B_data xo]
            rw [B_append, B_push, hLL]
            simp [S.listRow, bodyOf])
          have hnext : Hid (∀ k x, 1 ≤ k → (xo :: ts)[k]? = some x → S.B (bodyOf (L.take k)) ++ ⟨#[32, 32]⟩ ++ x ++ ⟨#[10]⟩ = S.B (bodyOf (L.take (k + 1)))) := hid (fun k x hk hx => by
            have hd : (xo.data.toList :: dat ts)[k]? = some x.data.toList := by
              rw [show xo.data.toList :: dat ts = dat (xo :: ts) from rfl, dat_get, hx]; rfl
            have hg := listRow_get M _ _ k _ hd hk
            rw [← hLL] at hg
            have e : S.B (bodyOf (L.take k)) ++ ⟨#[32, 32]⟩ ++ x ++ ⟨#[10]⟩ = (S.B (bodyOf (L.take k)) ++ (⟨#[32, 32]⟩ ++ x)) ++ ⟨#[10]⟩ := congrArg (fun z => z ++ (⟨#[10]⟩ : ByteArray)) ByteArray.append_assoc
            rw [e, bodyOf_snoc _ _ _ hg, hIn.out x, B_append, B_push, List.append_assoc])
          have hfin : Hid (bodyOf (L.take (ts.length + 1)) = S.listedOf M xo.data.toList (dat ts)) := hid (by rw [← hLlen, List.take_length, hLL]; rfl)
          have htk : Hid (∀ k, (bodyOf (L.take k)).length ≤ (bodyOf L).length) := hid (fun k => bodyOf_take_le L k)
          have hbWH := hid hbW
          have hNWH := hid hNW
          have hcW := hid (hcw.out W hbW)
          have hMkH := hid hMk
          have hqlH := hid (And.intro hqlen hsm0)
          have hzW : w2.heap.size < W.heap.size := (Array.getElem?_eq_some_iff.1 hNW).1
          clear hW hbW hNW hMM hMk hLL hqlen hby hsm0 hLlen
          rw [hstart.out]
          go_loop [13, 14] (fun t i => ∃ k : Nat, 1 ≤ k ∧ k ≤ ts.length + 1 ∧ t = .string (S.B (bodyOf (L.take k))) ∧ i = .int .i64 k) (fun _ i => ts.length + 1 - (intOf i).toNat)
          case atStart => exact ⟨1, Nat.le_refl _, by omega, rfl, rfl⟩
          case round =>
            obtain ⟨k, hk1, hk, rfl, rfl⟩ := hrel
            have hbs : (S.B (bodyOf (L.take k))).size ≤ 8000000 := by rw [S.size_B]; have := htk.out k; omega
            by_cases hlt : k < ts.length + 1
            · obtain ⟨x, hx⟩ : ∃ x, (xo :: ts)[k]? = some x := ⟨(xo :: ts)[k], List.getElem?_eq_getElem (by simp only [List.length_cons]; omega)⟩
              have hcell := hcW.out k x hx
              have hsxk := hxsz.out k x hx
              have hnx := hid (hnext.out k x hk1 hx)
              have hlti : (k : Int) < (ts.length : Int) + 1 := by omega
              have hk0i : (0 : Int) ≤ (k : Int) := by omega
              clear hx
              go_wp2
              go_round
              case rel => exact ⟨k + 1, by omega, by omega, by rw [hnx.out], by go_num⟩
              case measure => simp [intOf]; omega
            · obtain rfl : k = ts.length + 1 := by omega
              have hlti : ¬ (ts.length : Int) + 1 < (ts.length : Int) + 1 := by omega
              obtain ⟨q, hq⟩ : ∃ q, S.B (bodyOf (L.take (ts.length + 1))) = q := ⟨_, rfl⟩
              have hqd : Hid (q.data.toList = S.listedOf M xo.data.toList (dat ts)) := hid (by rw [← hq, S.data_B]; exact hfin.out)
              have hqz : q.size = bytes (xo.data.toList :: dat ts) + (ts.length + 1) + 2 * (ts.length + 1) := by
                rw [← S.length_data, hqd.out, S.listedOf_len, dat_length, hMl]
              rw [hq] at hbs ⊢
              clear hq
              by_cases h15 : 1500 < q.size
              · have h15i : (1500 : Int) < (q.size : Int) := by omega
                clear hqz
                go_wp2
                go_ret
                exact ⟨rfl, hb2H.out.trans (hbWH.out.mono hz2w)⟩
              · have h15i : ¬ (1500 : Int) < (q.size : Int) := by omega
                have hss : s.size ≤ 1500 := by have := hqlH.out.2; omega
                have hT1 := hid (tree_all s W hss (henv2.out.below hbWH.out))
                have hT2 := hid (fun (wx : World) (hx : Below W.heap.size W wx) => tree_all q wx (by omega) ((henv2.out.below hbWH.out).below hx))
                obtain ⟨lo, hlo⟩ := nodes_listed M (-1) 43 hMkH.out s.data.toList xo.data.toList (dat ts) hLs.out hplain.out.1 hplain.out.2.1 hplain.out.2.2
                rw [deep_deep, ← hqd.out] at hlo
                have hdp : Hid (∀ x ∈ nodesOf s.data.toList, 0 ≤ x.depth ∧ x.depth < 1000000) := hid (fun x hx => by
                  have := nodesOf_depth _ x hx
                  rw [S.length_data] at this
                  exact ⟨this.1, by omega⟩)
                have hnl := nodesOf_len s.data.toList
                rw [S.length_data] at hnl
                obtain ⟨N, hNN⟩ : ∃ N, nodesOf s.data.toList = N := ⟨_, rfl⟩
                rw [hNN] at hT1 hlo hdp hnl
                rw [hlo] at hT2
                simp only [List.length_cons, List.length_map] at hT2
                have hNl : N.length ≤ 30010 := by omega
                clear hNN hqz hnl hlo
                go_wp2_with fail
                refine hT1.out.mono ?_
                rintro e w3 ⟨B1, a1, cp1, rfl, hB1, hown1, hb3⟩
                have hown1H := hid hown1
                have hb3H := hid hb3
                have hT2' := hid (hT2.out w3 hb3)
                have hz3 : W.heap.size ≤ w3.heap.size := hb3.size
                clear hown1 hb3
                go_wp2_with fail
                refine hT2'.out.mono ?_
                rintro e w4 ⟨B2, a2, cp2, rfl, hB2, hown2, hb4⟩
                have hown2H := hid hown2
                obtain ⟨g2, rfl, hg2, hg2l, t0, t1, t2, t3, t4'⟩ := ownsN_at hown2 0 (listNd (-1) lo) rfl
                have t4 : w4.cell? ⟨g2, 4, none⟩ = some (.string (spacingOf lo)) := t4'
                clear t0 t1 t2 t3 t4'
                have hb4H := hid hb4
                have hz4 : w3.heap.size ≤ w4.heap.size := hb4.size
                have hN4 : w4.heap[w2.heap.size]? = some (.cells #[.int .i64 0, .int .i64 6, .int .i64 (-1), .string ⟨#[]⟩, .string ⟨#[]⟩, .int .i64 1, .int .i64 7, .int .i64 0, .string ⟨#[]⟩, .string ⟨#[]⟩] 36 (0, 0)) := by
                  rw [hb4.block _ (by omega), hb3H.out.block _ hzW]; exact hNWH.out
                have d4 : w4.cell? ⟨w2.heap.size, 4, none⟩ = some (.string ⟨#[]⟩) := cell_blk hN4 4 _ rfl
                have df := free_blk hN4
                have hN4H := hid hN4
                have hb24H : Hid (Below w2.heap.size w2 w4) := hid (hbWH.out.trans ((hb3H.out.mono (by omega)).trans (hb4.mono (by omega))))
                have hlb : (0 : Int) < (N.length : Int) + 1 + 1 := by omega
                have hlb0 : (0 : Int) ≤ 0 := by omega
                clear hown2 hb4 hN4
                cases lo with
                | true =>
                  have hloE : spacingOf true = ⟨#[108, 111, 111, 115, 101]⟩ := rfl
                  rw [hloE] at t4
                  have hleq : ((⟨#[108, 111, 111, 115, 101]⟩ : ByteArray).toList == [108, 111, 111, 115, 101]) = true := by kernel_rfl
                  clear hloE
                  obtain ⟨W5, hW5⟩ : ∃ W5, W5 = w4.setCell ⟨w2.heap.size, 4, none⟩ (.string ⟨#[108, 111, 111, 115, 101]⟩) := ⟨_, rfl⟩
                  have hN5 : W5.heap[w2.heap.size]? = some (.cells #[.int .i64 0, .int .i64 6, .int .i64 (-1), .string ⟨#[]⟩, .string ⟨#[108, 111, 111, 115, 101]⟩, .int .i64 1, .int .i64 7, .int .i64 0, .string ⟨#[]⟩, .string ⟨#[]⟩] 36 (0, 0)) := by
                    rw [hW5]; exact set_blk hN4H.out 4 (.string ⟨#[108, 111, 111, 115, 101]⟩)
                  have hs5 : W5.heap.size = w4.heap.size := by rw [hW5]; simp [World.setCell]
                  have hown15 : OwnsN B1 a1 cp1 N W5 := by rw [hW5]; exact ownsN_far (hown1H.out.below hb4H.out) _ _ _ (by omega)
                  have hown25 : OwnsN B2 (some ⟨g2, 0, none⟩) cp2 (listNd (-1) true :: itemNd :: N.map Nd.deep2) W5 := by rw [hW5]; exact ownsN_far hown2H.out _ _ _ (by omega)
                  have hownW : OwnsN w2.heap.size (some ⟨w2.heap.size, 0, none⟩) 2 [listNd (-1) true, itemNd] W5 := by
                    refine ⟨rfl, .inr ⟨w2.heap.size, 2, _, rfl, Nat.le_refl _, hN5, Nat.le_refl _, by decide, rfl, rfl⟩⟩
                  have hb5 : Below w2.heap.size w2 W5 := by rw [hW5]; exact (hb24H.out).setCell (Nat.le_refl _) _
                  have hD := hid (deeper_two B1 a1 cp1 N W5 hown15 (by omega) hdp.out)
                  have hown25H := hid hown25
                  have hownWH := hid hownW
                  have hb5H := hid hb5
                  have hs5H := hid hs5
                  clear hown15 hown25 hownW hb5 hN5 hs5
                  go_wp2_with fail
                  rw [← hW5]
                  clear hW5
                  refine hD.out.mono ?_
                  rintro e w5 ⟨a5, cp5, rfl, hown5, hb55, h50⟩
                  have hs5' := hs5H.out
                  have hz5 : w4.heap.size ≤ w5.heap.size := by have := hb55.size; omega
                  have hownW5 : OwnsN w2.heap.size (some ⟨w2.heap.size, 0, none⟩) 2 [listNd (-1) true, itemNd] w5 := hownWH.out.below hb55
                  have hown255 : OwnsN B2 (some ⟨g2, 0, none⟩) cp2 (listNd (-1) true :: itemNd :: N.map Nd.deep2) w5 := hown25H.out.below hb55
                  have hb25 : Below w2.heap.size w2 w5 := hb5H.out.trans (hb55.mono (by omega))
                  have hbase : w2.heap.size ≤ w5.heap.size := hb25.size
                  by_cases hN0 : N = []
                  · subst hN0
                    obtain ⟨rfl, rfl⟩ := h50 rfl
                    have hSm := hid (same_true B2 w2.heap.size (some ⟨g2, 0, none⟩) (some ⟨w2.heap.size, 0, none⟩) cp2 2 [listNd (-1) true, itemNd] w5 hown255 hownW5 (by simp))
                    have hownWH5 := hid hownW5
                    have hb25H := hid hb25
                    clear hs5' hb25 hownW5 hown255 hown5 hb55 h50 hD
                    go_wp2_with (at_builtin; refine wpList_append_own_none _ (by rfl) _ _ 22 (by rfl) w2.heap.size 36 i0 5 Tryz.underlying22 hi (.slice (some ⟨w2.heap.size, 0, none⟩) 2 2) 2 (ndCells [listNd (-1) true, itemNd]) (by rfl) hownWH5.out (by rfl) ?_)
                    refine hSm.out.mono ?_
                    rintro e w6 ⟨rfl, hb6⟩
                    have hb6H := hid (hb25H.out.trans (hb6.mono hbase))
                    clear hb6
                    go_wp2
                    go_ret
                    exact ⟨rfl, hb2H.out.trans (hb6H.out.mono hz2w)⟩
                  · have hNpos : 0 < N.length := List.length_pos_iff.2 hN0
                    obtain ⟨g5, rfl, hg5, hcp5, _⟩ := OwnsN.some hown5 (by rw [List.length_map]; exact hNpos)
                    have hnews : Hid (∀ j u, (ndCells (N.map Nd.deep2))[j]? = some u → w5.cell? ((⟨g5, 0, none⟩ : Addr).add j) = some u) := hid (fun j u hu => World.ownsRow.cells hown5 (g := g5) rfl j u hu)
                    have hlen5 : Hid ((ndCells (N.map Nd.deep2)).length = N.length * 5) := hid (by have := hown5.1; rwa [List.length_map] at this)
                    have hone : Hid (∀ u ∈ ndCells (N.map Nd.deep2), u.oneCell' = true) := hid (by
                      intro u hu
                      unfold ndCells at hu
                      obtain ⟨c, hc, huc⟩ := List.mem_flatten.1 hu
                      obtain ⟨x, _, rfl⟩ := List.mem_map.1 hc
                      simp [five] at huc; rcases huc with rfl | rfl | rfl | rfl | rfl <;> rfl)
                    have hownWH5 := hid hownW5
                    have hown255H := hid hown255
                    have hb25H := hid hb25
                    have hB2g : Hid (∀ gq, (some g2 : Option Nat) = some gq → gq ≠ w2.heap.size) := hid (fun gq h => by
                      have : g2 = gq := by simpa using h
                      omega)
                    clear hs5' hb25 hownW5 hown255 hown5 hb55 h50 hD hcp5
                    go_wp2_with (at_builtin; refine wpList_append_lies _ (by rfl) _ _ 22 (by rfl) w2.heap.size 36 i0 (.agg #[.int .i64 0, .int .i64 0, .int .i64 0, .string ⟨#[]⟩, .string ⟨#[]⟩]) 5 56 Tryz.underlying22 hi hz0 hz1 hz2 (by rfl) (by omega) (.slice (some ⟨w2.heap.size, 0, none⟩) 2 2) 2 (ndCells [listNd (-1) true, itemNd]) (by rfl) hownWH5.out ⟨g5, 0, none⟩ N.length cp5 (ndCells (N.map Nd.deep2)) (by rfl) hlen5.out hnews.out hone.out hNpos (by unfold maxLen; omega) (by omega) hbase w5.heap.size (by rfl) ?_)
                    intro gn cap1 w6 hown6 hgrow hat hltg
                    have hb26 : Below w2.heap.size w2 w6 := Below.grown hb25H.out hgrow hbase (fun q hq => by
                      have : w2.heap.size = q := by simpa [Value.ownBlock] using hq
                      omega)
                    have hown6' : OwnsN w2.heap.size (some ⟨gn, 0, none⟩) cap1 (listNd (-1) true :: itemNd :: N.map Nd.deep2) w6 := by
                      unfold OwnsN
                      rw [show listNd (-1) true :: itemNd :: N.map Nd.deep2 = [listNd (-1) true, itemNd] ++ N.map Nd.deep2 from rfl, List.length_append, List.length_map, show ndCells ([listNd (-1) true, itemNd] ++ N.map Nd.deep2) = ndCells [listNd (-1) true, itemNd] ++ ndCells (N.map Nd.deep2) by simp [ndCells]]
                      exact hown6
                    have hown26 : OwnsN B2 (some ⟨g2, 0, none⟩) cp2 (listNd (-1) true :: itemNd :: N.map Nd.deep2) w6 := by
                      refine World.ownsRow.kept hown255H.out hgrow (.inr ?_)
                      show (some g2 : Option Nat) ≠ some w2.heap.size
                      exact fun e => hB2g.out _ rfl (by simpa using e)
                    have hSm := hid (same_true B2 w2.heap.size (some ⟨g2, 0, none⟩) (some ⟨gn, 0, none⟩) cp2 cap1 (listNd (-1) true :: itemNd :: N.map Nd.deep2) w6 hown26 hown6' (by simp only [List.length_cons, List.length_map]; omega))
                    simp only [List.length_cons, List.length_map] at hSm
                    have hb26H := hid hb26
                    have hadd : 2 + N.length = N.length + 1 + 1 := by omega
                    have hz6 : w2.heap.size ≤ w6.heap.size := hb26.size
                    clear hown6 hgrow hat hltg hb26 hown6' hown26
                    rw [hadd]
                    go_wp2_with fail
                    refine hSm.out.mono ?_
                    rintro e w7 ⟨rfl, hb7⟩
                    have hb7H := hid (hb26H.out.trans (hb7.mono hz6))
                    clear hb7
                    go_wp2
                    go_ret
                    exact ⟨rfl, hb2H.out.trans (hb7H.out.mono hz2w)⟩
                | false =>
                  have hloE : spacingOf false = ⟨#[116, 105, 103, 104, 116]⟩ := rfl
                  rw [hloE] at t4
                  have hleq : ((⟨#[116, 105, 103, 104, 116]⟩ : ByteArray).toList == [108, 111, 111, 115, 101]) = false := by kernel_rfl
                  clear hloE
                  obtain ⟨W5, hW5⟩ : ∃ W5, W5 = w4.setCell ⟨w2.heap.size, 4, none⟩ (.string ⟨#[116, 105, 103, 104, 116]⟩) := ⟨_, rfl⟩
                  have hN5 : W5.heap[w2.heap.size]? = some (.cells #[.int .i64 0, .int .i64 6, .int .i64 (-1), .string ⟨#[]⟩, .string ⟨#[116, 105, 103, 104, 116]⟩, .int .i64 1, .int .i64 7, .int .i64 0, .string ⟨#[]⟩, .string ⟨#[]⟩] 36 (0, 0)) := by
                    rw [hW5]; exact set_blk hN4H.out 4 (.string ⟨#[116, 105, 103, 104, 116]⟩)
                  have hs5 : W5.heap.size = w4.heap.size := by rw [hW5]; simp [World.setCell]
                  have hown15 : OwnsN B1 a1 cp1 N W5 := by rw [hW5]; exact ownsN_far (hown1H.out.below hb4H.out) _ _ _ (by omega)
                  have hown25 : OwnsN B2 (some ⟨g2, 0, none⟩) cp2 (listNd (-1) false :: itemNd :: N.map Nd.deep2) W5 := by rw [hW5]; exact ownsN_far hown2H.out _ _ _ (by omega)
                  have hownW : OwnsN w2.heap.size (some ⟨w2.heap.size, 0, none⟩) 2 [listNd (-1) false, itemNd] W5 := by
                    refine ⟨rfl, .inr ⟨w2.heap.size, 2, _, rfl, Nat.le_refl _, hN5, Nat.le_refl _, by decide, rfl, rfl⟩⟩
                  have hb5 : Below w2.heap.size w2 W5 := by rw [hW5]; exact (hb24H.out).setCell (Nat.le_refl _) _
                  have hD := hid (deeper_two B1 a1 cp1 N W5 hown15 (by omega) hdp.out)
                  have hown25H := hid hown25
                  have hownWH := hid hownW
                  have hb5H := hid hb5
                  have hs5H := hid hs5
                  clear hown15 hown25 hownW hb5 hN5 hs5
                  go_wp2_with fail
                  rw [← hW5]
                  clear hW5
                  refine hD.out.mono ?_
                  rintro e w5 ⟨a5, cp5, rfl, hown5, hb55, h50⟩
                  have hs5' := hs5H.out
                  have hz5 : w4.heap.size ≤ w5.heap.size := by have := hb55.size; omega
                  have hownW5 : OwnsN w2.heap.size (some ⟨w2.heap.size, 0, none⟩) 2 [listNd (-1) false, itemNd] w5 := hownWH.out.below hb55
                  have hown255 : OwnsN B2 (some ⟨g2, 0, none⟩) cp2 (listNd (-1) false :: itemNd :: N.map Nd.deep2) w5 := hown25H.out.below hb55
                  have hb25 : Below w2.heap.size w2 w5 := hb5H.out.trans (hb55.mono (by omega))
                  have hbase : w2.heap.size ≤ w5.heap.size := hb25.size
                  by_cases hN0 : N = []
                  · subst hN0
                    obtain ⟨rfl, rfl⟩ := h50 rfl
                    have hSm := hid (same_true B2 w2.heap.size (some ⟨g2, 0, none⟩) (some ⟨w2.heap.size, 0, none⟩) cp2 2 [listNd (-1) false, itemNd] w5 hown255 hownW5 (by simp))
                    have hownWH5 := hid hownW5
                    have hb25H := hid hb25
                    clear hs5' hb25 hownW5 hown255 hown5 hb55 h50 hD
                    go_wp2_with (at_builtin; refine wpList_append_own_none _ (by rfl) _ _ 22 (by rfl) w2.heap.size 36 i0 5 Tryz.underlying22 hi (.slice (some ⟨w2.heap.size, 0, none⟩) 2 2) 2 (ndCells [listNd (-1) false, itemNd]) (by rfl) hownWH5.out (by rfl) ?_)
                    refine hSm.out.mono ?_
                    rintro e w6 ⟨rfl, hb6⟩
                    have hb6H := hid (hb25H.out.trans (hb6.mono hbase))
                    clear hb6
                    go_wp2
                    go_ret
                    exact ⟨rfl, hb2H.out.trans (hb6H.out.mono hz2w)⟩
                  · have hNpos : 0 < N.length := List.length_pos_iff.2 hN0
                    obtain ⟨g5, rfl, hg5, hcp5, _⟩ := OwnsN.some hown5 (by rw [List.length_map]; exact hNpos)
                    have hnews : Hid (∀ j u, (ndCells (N.map Nd.deep2))[j]? = some u → w5.cell? ((⟨g5, 0, none⟩ : Addr).add j) = some u) := hid (fun j u hu => World.ownsRow.cells hown5 (g := g5) rfl j u hu)
                    have hlen5 : Hid ((ndCells (N.map Nd.deep2)).length = N.length * 5) := hid (by have := hown5.1; rwa [List.length_map] at this)
                    have hone : Hid (∀ u ∈ ndCells (N.map Nd.deep2), u.oneCell' = true) := hid (by
                      intro u hu
                      unfold ndCells at hu
                      obtain ⟨c, hc, huc⟩ := List.mem_flatten.1 hu
                      obtain ⟨x, _, rfl⟩ := List.mem_map.1 hc
                      simp [five] at huc; rcases huc with rfl | rfl | rfl | rfl | rfl <;> rfl)
                    have hownWH5 := hid hownW5
                    have hown255H := hid hown255
                    have hb25H := hid hb25
                    have hB2g : Hid (∀ gq, (some g2 : Option Nat) = some gq → gq ≠ w2.heap.size) := hid (fun gq h => by
                      have : g2 = gq := by simpa using h
                      omega)
                    clear hs5' hb25 hownW5 hown255 hown5 hb55 h50 hD hcp5
                    go_wp2_with (at_builtin; refine wpList_append_lies _ (by rfl) _ _ 22 (by rfl) w2.heap.size 36 i0 (.agg #[.int .i64 0, .int .i64 0, .int .i64 0, .string ⟨#[]⟩, .string ⟨#[]⟩]) 5 56 Tryz.underlying22 hi hz0 hz1 hz2 (by rfl) (by omega) (.slice (some ⟨w2.heap.size, 0, none⟩) 2 2) 2 (ndCells [listNd (-1) false, itemNd]) (by rfl) hownWH5.out ⟨g5, 0, none⟩ N.length cp5 (ndCells (N.map Nd.deep2)) (by rfl) hlen5.out hnews.out hone.out hNpos (by unfold maxLen; omega) (by omega) hbase w5.heap.size (by rfl) ?_)
                    intro gn cap1 w6 hown6 hgrow hat hltg
                    have hb26 : Below w2.heap.size w2 w6 := Below.grown hb25H.out hgrow hbase (fun q hq => by
                      have : w2.heap.size = q := by simpa [Value.ownBlock] using hq
                      omega)
                    have hown6' : OwnsN w2.heap.size (some ⟨gn, 0, none⟩) cap1 (listNd (-1) false :: itemNd :: N.map Nd.deep2) w6 := by
                      unfold OwnsN
                      rw [show listNd (-1) false :: itemNd :: N.map Nd.deep2 = [listNd (-1) false, itemNd] ++ N.map Nd.deep2 from rfl, List.length_append, List.length_map, show ndCells ([listNd (-1) false, itemNd] ++ N.map Nd.deep2) = ndCells [listNd (-1) false, itemNd] ++ ndCells (N.map Nd.deep2) by simp [ndCells]]
                      exact hown6
                    have hown26 : OwnsN B2 (some ⟨g2, 0, none⟩) cp2 (listNd (-1) false :: itemNd :: N.map Nd.deep2) w6 := by
                      refine World.ownsRow.kept hown255H.out hgrow (.inr ?_)
                      show (some g2 : Option Nat) ≠ some w2.heap.size
                      exact fun e => hB2g.out _ rfl (by simpa using e)
                    have hSm := hid (same_true B2 w2.heap.size (some ⟨g2, 0, none⟩) (some ⟨gn, 0, none⟩) cp2 cap1 (listNd (-1) false :: itemNd :: N.map Nd.deep2) w6 hown26 hown6' (by simp only [List.length_cons, List.length_map]; omega))
                    simp only [List.length_cons, List.length_map] at hSm
                    have hb26H := hid hb26
                    have hadd : 2 + N.length = N.length + 1 + 1 := by omega
                    have hz6 : w2.heap.size ≤ w6.heap.size := hb26.size
                    clear hown6 hgrow hat hltg hb26 hown6' hown26
                    rw [hadd]
                    go_wp2_with fail
                    refine hSm.out.mono ?_
                    rintro e w7 ⟨rfl, hb7⟩
                    have hb7H := hid (hb26H.out.trans (hb7.mono hz6))
                    clear hb7
                    go_wp2
                    go_ret
                    exact ⟨rfl, hb2H.out.trans (hb7H.out.mono hz2w)⟩
      · skip
        go_wp2
        obtain ⟨W, hW⟩ : ∃ W, W = (w2.alloc (.cells #[.int .i64 0, .int .i64 6, .int .i64 (-1), .string ⟨#[]⟩, .string ⟨#[]⟩, .int .i64 1, .int .i64 7, .int .i64 0, .string ⟨#[]⟩, .string ⟨#[]⟩] 36)) := ⟨_, rfl⟩
        have hbW : Below w2.heap.size w2 W := by rw [hW]; exact (Below.refl _ _).alloc (Nat.le_refl _) _
        have hNW : W.heap[w2.heap.size]? = some (.cells #[.int .i64 0, .int .i64 6, .int .i64 (-1), .string ⟨#[]⟩, .string ⟨#[]⟩, .int .i64 1, .int .i64 7, .int .i64 0, .string ⟨#[]⟩, .string ⟨#[]⟩] 36 (0, 0)) := by
          rw [hW]; exact alloc_new _ _
        rw [← hW]
        obtain ⟨M, hMM⟩ : ∃ M : List UInt8, M = [43, 32] := ⟨_, rfl⟩
        have hMk : S.Marks M (-1) 43 := by rw [hMM]; exact S.marks_plus
        have hMl : M.length = 2 := by rw [hMM]; rfl
        have hMb : Hid (S.B M = ⟨#[43, 32]⟩) := hid (by rw [hMM]; rfl)
        have hIn : Hid (∀ x : ByteArray, ⟨#[32, 32]⟩ ++ x = S.B (S.inn M.length x.data.toList)) := hid (fun x => by
          rw [hMl]; conv => lhs; rw [← S.B_data x]
          exact (B_append (List.replicate 2 32) x.data.toList))
        obtain ⟨L, hLL⟩ : ∃ L, L = S.listRow M xo.data.toList (dat ts) := ⟨_, rfl⟩
        have hLlen : L.length = ts.length + 1 := by rw [hLL, S.listRow_len, dat_length]
        have hqlen : (bodyOf L).length = bytes (xo.data.toList :: dat ts) + (ts.length + 1) + 2 * (ts.length + 1) := by
          rw [hLL, bodyOf_listed, S.listedOf_len, dat_length, hMl]
        have hby : bytes (dat (xo :: ts)) = bytes (xo.data.toList :: dat ts) := rfl
        have hsm0 := hsumH.out
        simp only [List.length_cons] at hsm0
        rw [hby] at hsm0
        have hbig : (bodyOf L).length ≤ 8000000 := by omega
        have hstart : Hid (⟨#[43, 32]⟩ ++ xo ++ ⟨#[10]⟩ = S.B (bodyOf (L.take 1))) := hid (by
          rw [← hMb.out]
          conv => lhs; rw [← S.B_data xo]
          rw [B_append, B_push, hLL]
          simp [S.listRow, bodyOf])
        have hnext : Hid (∀ k x, 1 ≤ k → (xo :: ts)[k]? = some x → S.B (bodyOf (L.take k)) ++ ⟨#[32, 32]⟩ ++ x ++ ⟨#[10]⟩ = S.B (bodyOf (L.take (k + 1)))) := hid (fun k x hk hx => by
          have hd : (xo.data.toList :: dat ts)[k]? = some x.data.toList := by
            rw [show xo.data.toList :: dat ts = dat (xo :: ts) from rfl, dat_get, hx]; rfl
          have hg := listRow_get M _ _ k _ hd hk
          rw [← hLL] at hg
          have e : S.B (bodyOf (L.take k)) ++ ⟨#[32, 32]⟩ ++ x ++ ⟨#[10]⟩ = (S.B (bodyOf (L.take k)) ++ (⟨#[32, 32]⟩ ++ x)) ++ ⟨#[10]⟩ := congrArg (fun z => z ++ (⟨#[10]⟩ : ByteArray)) ByteArray.append_assoc
          rw [e, bodyOf_snoc _ _ _ hg, hIn.out x, B_append, B_push, List.append_assoc])
        have hfin : Hid (bodyOf (L.take (ts.length + 1)) = S.listedOf M xo.data.toList (dat ts)) := hid (by rw [← hLlen, List.take_length, hLL]; rfl)
        have htk : Hid (∀ k, (bodyOf (L.take k)).length ≤ (bodyOf L).length) := hid (fun k => bodyOf_take_le L k)
        have hbWH := hid hbW
        have hNWH := hid hNW
        have hcW := hid (hcw.out W hbW)
        have hMkH := hid hMk
        have hqlH := hid (And.intro hqlen hsm0)
        have hzW : w2.heap.size < W.heap.size := (Array.getElem?_eq_some_iff.1 hNW).1
        clear hW hbW hNW hMM hMk hLL hqlen hby hsm0 hLlen
        rw [hstart.out]
        go_loop [13, 14] (fun t i => ∃ k : Nat, 1 ≤ k ∧ k ≤ ts.length + 1 ∧ t = .string (S.B (bodyOf (L.take k))) ∧ i = .int .i64 k) (fun _ i => ts.length + 1 - (intOf i).toNat)
        case atStart => exact ⟨1, Nat.le_refl _, by omega, rfl, rfl⟩
        case round =>
          obtain ⟨k, hk1, hk, rfl, rfl⟩ := hrel
          have hbs : (S.B (bodyOf (L.take k))).size ≤ 8000000 := by rw [S.size_B]; have := htk.out k; omega
          by_cases hlt : k < ts.length + 1
          · obtain ⟨x, hx⟩ : ∃ x, (xo :: ts)[k]? = some x := ⟨(xo :: ts)[k], List.getElem?_eq_getElem (by simp only [List.length_cons]; omega)⟩
            have hcell := hcW.out k x hx
            have hsxk := hxsz.out k x hx
            have hnx := hid (hnext.out k x hk1 hx)
            have hlti : (k : Int) < (ts.length : Int) + 1 := by omega
            have hk0i : (0 : Int) ≤ (k : Int) := by omega
            clear hx
            go_wp2
            go_round
            case rel => exact ⟨k + 1, by omega, by omega, by rw [hnx.out], by go_num⟩
            case measure => simp [intOf]; omega
          · obtain rfl : k = ts.length + 1 := by omega
            have hlti : ¬ (ts.length : Int) + 1 < (ts.length : Int) + 1 := by omega
            obtain ⟨q, hq⟩ : ∃ q, S.B (bodyOf (L.take (ts.length + 1))) = q := ⟨_, rfl⟩
            have hqd : Hid (q.data.toList = S.listedOf M xo.data.toList (dat ts)) := hid (by rw [← hq, S.data_B]; exact hfin.out)
            have hqz : q.size = bytes (xo.data.toList :: dat ts) + (ts.length + 1) + 2 * (ts.length + 1) := by
              rw [← S.length_data, hqd.out, S.listedOf_len, dat_length, hMl]
            rw [hq] at hbs ⊢
            clear hq
            by_cases h15 : 1500 < q.size
            · have h15i : (1500 : Int) < (q.size : Int) := by omega
              clear hqz
              go_wp2
              go_ret
              exact ⟨rfl, hb2H.out.trans (hbWH.out.mono hz2w)⟩
            · have h15i : ¬ (1500 : Int) < (q.size : Int) := by omega
              have hss : s.size ≤ 1500 := by have := hqlH.out.2; omega
              have hT1 := hid (tree_all s W hss (henv2.out.below hbWH.out))
              have hT2 := hid (fun (wx : World) (hx : Below W.heap.size W wx) => tree_all q wx (by omega) ((henv2.out.below hbWH.out).below hx))
              obtain ⟨lo, hlo⟩ := nodes_listed M (-1) 43 hMkH.out s.data.toList xo.data.toList (dat ts) hLs.out hplain.out.1 hplain.out.2.1 hplain.out.2.2
              rw [deep_deep, ← hqd.out] at hlo
              have hdp : Hid (∀ x ∈ nodesOf s.data.toList, 0 ≤ x.depth ∧ x.depth < 1000000) := hid (fun x hx => by
                have := nodesOf_depth _ x hx
                rw [S.length_data] at this
                exact ⟨this.1, by omega⟩)
              have hnl := nodesOf_len s.data.toList
              rw [S.length_data] at hnl
              obtain ⟨N, hNN⟩ : ∃ N, nodesOf s.data.toList = N := ⟨_, rfl⟩
              rw [hNN] at hT1 hlo hdp hnl
              rw [hlo] at hT2
              simp only [List.length_cons, List.length_map] at hT2
              have hNl : N.length ≤ 30010 := by omega
              clear hNN hqz hnl hlo
              go_wp2_with fail
              refine hT1.out.mono ?_
              rintro e w3 ⟨B1, a1, cp1, rfl, hB1, hown1, hb3⟩
              have hown1H := hid hown1
              have hb3H := hid hb3
              have hT2' := hid (hT2.out w3 hb3)
              have hz3 : W.heap.size ≤ w3.heap.size := hb3.size
              clear hown1 hb3
              go_wp2_with fail
              refine hT2'.out.mono ?_
              rintro e w4 ⟨B2, a2, cp2, rfl, hB2, hown2, hb4⟩
              have hown2H := hid hown2
              obtain ⟨g2, rfl, hg2, hg2l, t0, t1, t2, t3, t4'⟩ := ownsN_at hown2 0 (listNd (-1) lo) rfl
              have t4 : w4.cell? ⟨g2, 4, none⟩ = some (.string (spacingOf lo)) := t4'
              clear t0 t1 t2 t3 t4'
              have hb4H := hid hb4
              have hz4 : w3.heap.size ≤ w4.heap.size := hb4.size
              have hN4 : w4.heap[w2.heap.size]? = some (.cells #[.int .i64 0, .int .i64 6, .int .i64 (-1), .string ⟨#[]⟩, .string ⟨#[]⟩, .int .i64 1, .int .i64 7, .int .i64 0, .string ⟨#[]⟩, .string ⟨#[]⟩] 36 (0, 0)) := by
                rw [hb4.block _ (by omega), hb3H.out.block _ hzW]; exact hNWH.out
              have d4 : w4.cell? ⟨w2.heap.size, 4, none⟩ = some (.string ⟨#[]⟩) := cell_blk hN4 4 _ rfl
              have df := free_blk hN4
              have hN4H := hid hN4
              have hb24H : Hid (Below w2.heap.size w2 w4) := hid (hbWH.out.trans ((hb3H.out.mono (by omega)).trans (hb4.mono (by omega))))
              have hlb : (0 : Int) < (N.length : Int) + 1 + 1 := by omega
              have hlb0 : (0 : Int) ≤ 0 := by omega
              clear hown2 hb4 hN4
              cases lo with
              | true =>
                have hloE : spacingOf true = ⟨#[108, 111, 111, 115, 101]⟩ := rfl
                rw [hloE] at t4
                have hleq : ((⟨#[108, 111, 111, 115, 101]⟩ : ByteArray).toList == [108, 111, 111, 115, 101]) = true := by kernel_rfl
                clear hloE
                obtain ⟨W5, hW5⟩ : ∃ W5, W5 = w4.setCell ⟨w2.heap.size, 4, none⟩ (.string ⟨#[108, 111, 111, 115, 101]⟩) := ⟨_, rfl⟩
                have hN5 : W5.heap[w2.heap.size]? = some (.cells #[.int .i64 0, .int .i64 6, .int .i64 (-1), .string ⟨#[]⟩, .string ⟨#[108, 111, 111, 115, 101]⟩, .int .i64 1, .int .i64 7, .int .i64 0, .string ⟨#[]⟩, .string ⟨#[]⟩] 36 (0, 0)) := by
                  rw [hW5]; exact set_blk hN4H.out 4 (.string ⟨#[108, 111, 111, 115, 101]⟩)
                have hs5 : W5.heap.size = w4.heap.size := by rw [hW5]; simp [World.setCell]
                have hown15 : OwnsN B1 a1 cp1 N W5 := by rw [hW5]; exact ownsN_far (hown1H.out.below hb4H.out) _ _ _ (by omega)
                have hown25 : OwnsN B2 (some ⟨g2, 0, none⟩) cp2 (listNd (-1) true :: itemNd :: N.map Nd.deep2) W5 := by rw [hW5]; exact ownsN_far hown2H.out _ _ _ (by omega)
                have hownW : OwnsN w2.heap.size (some ⟨w2.heap.size, 0, none⟩) 2 [listNd (-1) true, itemNd] W5 := by
                  refine ⟨rfl, .inr ⟨w2.heap.size, 2, _, rfl, Nat.le_refl _, hN5, Nat.le_refl _, by decide, rfl, rfl⟩⟩
                have hb5 : Below w2.heap.size w2 W5 := by rw [hW5]; exact (hb24H.out).setCell (Nat.le_refl _) _
                have hD := hid (deeper_two B1 a1 cp1 N W5 hown15 (by omega) hdp.out)
                have hown25H := hid hown25
                have hownWH := hid hownW
                have hb5H := hid hb5
                have hs5H := hid hs5
                clear hown15 hown25 hownW hb5 hN5 hs5
                go_wp2_with fail
                rw [← hW5]
                clear hW5
                refine hD.out.mono ?_
                rintro e w5 ⟨a5, cp5, rfl, hown5, hb55, h50⟩
                have hs5' := hs5H.out
                have hz5 : w4.heap.size ≤ w5.heap.size := by have := hb55.size; omega
                have hownW5 : OwnsN w2.heap.size (some ⟨w2.heap.size, 0, none⟩) 2 [listNd (-1) true, itemNd] w5 := hownWH.out.below hb55
                have hown255 : OwnsN B2 (some ⟨g2, 0, none⟩) cp2 (listNd (-1) true :: itemNd :: N.map Nd.deep2) w5 := hown25H.out.below hb55
                have hb25 : Below w2.heap.size w2 w5 := hb5H.out.trans (hb55.mono (by omega))
                have hbase : w2.heap.size ≤ w5.heap.size := hb25.size
                by_cases hN0 : N = []
                · subst hN0
                  obtain ⟨rfl, rfl⟩ := h50 rfl
                  have hSm := hid (same_true B2 w2.heap.size (some ⟨g2, 0, none⟩) (some ⟨w2.heap.size, 0, none⟩) cp2 2 [listNd (-1) true, itemNd] w5 hown255 hownW5 (by simp))
                  have hownWH5 := hid hownW5
                  have hb25H := hid hb25
                  clear hs5' hb25 hownW5 hown255 hown5 hb55 h50 hD
                  go_wp2_with (at_builtin; refine wpList_append_own_none _ (by rfl) _ _ 22 (by rfl) w2.heap.size 36 i0 5 Tryz.underlying22 hi (.slice (some ⟨w2.heap.size, 0, none⟩) 2 2) 2 (ndCells [listNd (-1) true, itemNd]) (by rfl) hownWH5.out (by rfl) ?_)
                  refine hSm.out.mono ?_
                  rintro e w6 ⟨rfl, hb6⟩
                  have hb6H := hid (hb25H.out.trans (hb6.mono hbase))
                  clear hb6
                  go_wp2
                  go_ret
                  exact ⟨rfl, hb2H.out.trans (hb6H.out.mono hz2w)⟩
                · have hNpos : 0 < N.length := List.length_pos_iff.2 hN0
                  obtain ⟨g5, rfl, hg5, hcp5, _⟩ := OwnsN.some hown5 (by rw [List.length_map]; exact hNpos)
                  have hnews : Hid (∀ j u, (ndCells (N.map Nd.deep2))[j]? = some u → w5.cell? ((⟨g5, 0, none⟩ : Addr).add j) = some u) := hid (fun j u hu => World.ownsRow.cells hown5 (g := g5) rfl j u hu)
                  have hlen5 : Hid ((ndCells (N.map Nd.deep2)).length = N.length * 5) := hid (by have := hown5.1; rwa [List.length_map] at this)
                  have hone : Hid (∀ u ∈ ndCells (N.map Nd.deep2), u.oneCell' = true) := hid (by
                    intro u hu
                    unfold ndCells at hu
                    obtain ⟨c, hc, huc⟩ := List.mem_flatten.1 hu
                    obtain ⟨x, _, rfl⟩ := List.mem_map.1 hc
                    simp [five] at huc; rcases huc with rfl | rfl | rfl | rfl | rfl <;> rfl)
                  have hownWH5 := hid hownW5
                  have hown255H := hid hown255
                  have hb25H := hid hb25
                  have hB2g : Hid (∀ gq, (some g2 : Option Nat) = some gq → gq ≠ w2.heap.size) := hid (fun gq h => by
                    have : g2 = gq := by simpa using h
                    omega)
                  clear hs5' hb25 hownW5 hown255 hown5 hb55 h50 hD hcp5
                  go_wp2_with (at_builtin; refine wpList_append_lies _ (by rfl) _ _ 22 (by rfl) w2.heap.size 36 i0 (.agg #[.int .i64 0, .int .i64 0, .int .i64 0, .string ⟨#[]⟩, .string ⟨#[]⟩]) 5 56 Tryz.underlying22 hi hz0 hz1 hz2 (by rfl) (by omega) (.slice (some ⟨w2.heap.size, 0, none⟩) 2 2) 2 (ndCells [listNd (-1) true, itemNd]) (by rfl) hownWH5.out ⟨g5, 0, none⟩ N.length cp5 (ndCells (N.map Nd.deep2)) (by rfl) hlen5.out hnews.out hone.out hNpos (by unfold maxLen; omega) (by omega) hbase w5.heap.size (by rfl) ?_)
                  intro gn cap1 w6 hown6 hgrow hat hltg
                  have hb26 : Below w2.heap.size w2 w6 := Below.grown hb25H.out hgrow hbase (fun q hq => by
                    have : w2.heap.size = q := by simpa [Value.ownBlock] using hq
                    omega)
                  have hown6' : OwnsN w2.heap.size (some ⟨gn, 0, none⟩) cap1 (listNd (-1) true :: itemNd :: N.map Nd.deep2) w6 := by
                    unfold OwnsN
                    rw [show listNd (-1) true :: itemNd :: N.map Nd.deep2 = [listNd (-1) true, itemNd] ++ N.map Nd.deep2 from rfl, List.length_append, List.length_map, show ndCells ([listNd (-1) true, itemNd] ++ N.map Nd.deep2) = ndCells [listNd (-1) true, itemNd] ++ ndCells (N.map Nd.deep2) by simp [ndCells]]
                    exact hown6
                  have hown26 : OwnsN B2 (some ⟨g2, 0, none⟩) cp2 (listNd (-1) true :: itemNd :: N.map Nd.deep2) w6 := by
                    refine World.ownsRow.kept hown255H.out hgrow (.inr ?_)
                    show (some g2 : Option Nat) ≠ some w2.heap.size
                    exact fun e => hB2g.out _ rfl (by simpa using e)
                  have hSm := hid (same_true B2 w2.heap.size (some ⟨g2, 0, none⟩) (some ⟨gn, 0, none⟩) cp2 cap1 (listNd (-1) true :: itemNd :: N.map Nd.deep2) w6 hown26 hown6' (by simp only [List.length_cons, List.length_map]; omega))
                  simp only [List.length_cons, List.length_map] at hSm
                  have hb26H := hid hb26
                  have hadd : 2 + N.length = N.length + 1 + 1 := by omega
                  have hz6 : w2.heap.size ≤ w6.heap.size := hb26.size
                  clear hown6 hgrow hat hltg hb26 hown6' hown26
                  rw [hadd]
                  go_wp2_with fail
                  refine hSm.out.mono ?_
                  rintro e w7 ⟨rfl, hb7⟩
                  have hb7H := hid (hb26H.out.trans (hb7.mono hz6))
                  clear hb7
                  go_wp2
                  go_ret
                  exact ⟨rfl, hb2H.out.trans (hb7H.out.mono hz2w)⟩
              | false =>
                have hloE : spacingOf false = ⟨#[116, 105, 103, 104, 116]⟩ := rfl
                rw [hloE] at t4
                have hleq : ((⟨#[116, 105, 103, 104, 116]⟩ : ByteArray).toList == [108, 111, 111, 115, 101]) = false := by kernel_rfl
                clear hloE
                obtain ⟨W5, hW5⟩ : ∃ W5, W5 = w4.setCell ⟨w2.heap.size, 4, none⟩ (.string ⟨#[116, 105, 103, 104, 116]⟩) := ⟨_, rfl⟩
                have hN5 : W5.heap[w2.heap.size]? = some (.cells #[.int .i64 0, .int .i64 6, .int .i64 (-1), .string ⟨#[]⟩, .string ⟨#[116, 105, 103, 104, 116]⟩, .int .i64 1, .int .i64 7, .int .i64 0, .string ⟨#[]⟩, .string ⟨#[]⟩] 36 (0, 0)) := by
                  rw [hW5]; exact set_blk hN4H.out 4 (.string ⟨#[116, 105, 103, 104, 116]⟩)
                have hs5 : W5.heap.size = w4.heap.size := by rw [hW5]; simp [World.setCell]
                have hown15 : OwnsN B1 a1 cp1 N W5 := by rw [hW5]; exact ownsN_far (hown1H.out.below hb4H.out) _ _ _ (by omega)
                have hown25 : OwnsN B2 (some ⟨g2, 0, none⟩) cp2 (listNd (-1) false :: itemNd :: N.map Nd.deep2) W5 := by rw [hW5]; exact ownsN_far hown2H.out _ _ _ (by omega)
                have hownW : OwnsN w2.heap.size (some ⟨w2.heap.size, 0, none⟩) 2 [listNd (-1) false, itemNd] W5 := by
                  refine ⟨rfl, .inr ⟨w2.heap.size, 2, _, rfl, Nat.le_refl _, hN5, Nat.le_refl _, by decide, rfl, rfl⟩⟩
                have hb5 : Below w2.heap.size w2 W5 := by rw [hW5]; exact (hb24H.out).setCell (Nat.le_refl _) _
                have hD := hid (deeper_two B1 a1 cp1 N W5 hown15 (by omega) hdp.out)
                have hown25H := hid hown25
                have hownWH := hid hownW
                have hb5H := hid hb5
                have hs5H := hid hs5
                clear hown15 hown25 hownW hb5 hN5 hs5
                go_wp2_with fail
                rw [← hW5]
                clear hW5
                refine hD.out.mono ?_
                rintro e w5 ⟨a5, cp5, rfl, hown5, hb55, h50⟩
                have hs5' := hs5H.out
                have hz5 : w4.heap.size ≤ w5.heap.size := by have := hb55.size; omega
                have hownW5 : OwnsN w2.heap.size (some ⟨w2.heap.size, 0, none⟩) 2 [listNd (-1) false, itemNd] w5 := hownWH.out.below hb55
                have hown255 : OwnsN B2 (some ⟨g2, 0, none⟩) cp2 (listNd (-1) false :: itemNd :: N.map Nd.deep2) w5 := hown25H.out.below hb55
                have hb25 : Below w2.heap.size w2 w5 := hb5H.out.trans (hb55.mono (by omega))
                have hbase : w2.heap.size ≤ w5.heap.size := hb25.size
                by_cases hN0 : N = []
                · subst hN0
                  obtain ⟨rfl, rfl⟩ := h50 rfl
                  have hSm := hid (same_true B2 w2.heap.size (some ⟨g2, 0, none⟩) (some ⟨w2.heap.size, 0, none⟩) cp2 2 [listNd (-1) false, itemNd] w5 hown255 hownW5 (by simp))
                  have hownWH5 := hid hownW5
                  have hb25H := hid hb25
                  clear hs5' hb25 hownW5 hown255 hown5 hb55 h50 hD
                  go_wp2_with (at_builtin; refine wpList_append_own_none _ (by rfl) _ _ 22 (by rfl) w2.heap.size 36 i0 5 Tryz.underlying22 hi (.slice (some ⟨w2.heap.size, 0, none⟩) 2 2) 2 (ndCells [listNd (-1) false, itemNd]) (by rfl) hownWH5.out (by rfl) ?_)
                  refine hSm.out.mono ?_
                  rintro e w6 ⟨rfl, hb6⟩
                  have hb6H := hid (hb25H.out.trans (hb6.mono hbase))
                  clear hb6
                  go_wp2
                  go_ret
                  exact ⟨rfl, hb2H.out.trans (hb6H.out.mono hz2w)⟩
                · have hNpos : 0 < N.length := List.length_pos_iff.2 hN0
                  obtain ⟨g5, rfl, hg5, hcp5, _⟩ := OwnsN.some hown5 (by rw [List.length_map]; exact hNpos)
                  have hnews : Hid (∀ j u, (ndCells (N.map Nd.deep2))[j]? = some u → w5.cell? ((⟨g5, 0, none⟩ : Addr).add j) = some u) := hid (fun j u hu => World.ownsRow.cells hown5 (g := g5) rfl j u hu)
                  have hlen5 : Hid ((ndCells (N.map Nd.deep2)).length = N.length * 5) := hid (by have := hown5.1; rwa [List.length_map] at this)
                  have hone : Hid (∀ u ∈ ndCells (N.map Nd.deep2), u.oneCell' = true) := hid (by
                    intro u hu
                    unfold ndCells at hu
                    obtain ⟨c, hc, huc⟩ := List.mem_flatten.1 hu
                    obtain ⟨x, _, rfl⟩ := List.mem_map.1 hc
                    simp [five] at huc; rcases huc with rfl | rfl | rfl | rfl | rfl <;> rfl)
                  have hownWH5 := hid hownW5
                  have hown255H := hid hown255
                  have hb25H := hid hb25
                  have hB2g : Hid (∀ gq, (some g2 : Option Nat) = some gq → gq ≠ w2.heap.size) := hid (fun gq h => by
                    have : g2 = gq := by simpa using h
                    omega)
                  clear hs5' hb25 hownW5 hown255 hown5 hb55 h50 hD hcp5
                  go_wp2_with (at_builtin; refine wpList_append_lies _ (by rfl) _ _ 22 (by rfl) w2.heap.size 36 i0 (.agg #[.int .i64 0, .int .i64 0, .int .i64 0, .string ⟨#[]⟩, .string ⟨#[]⟩]) 5 56 Tryz.underlying22 hi hz0 hz1 hz2 (by rfl) (by omega) (.slice (some ⟨w2.heap.size, 0, none⟩) 2 2) 2 (ndCells [listNd (-1) false, itemNd]) (by rfl) hownWH5.out ⟨g5, 0, none⟩ N.length cp5 (ndCells (N.map Nd.deep2)) (by rfl) hlen5.out hnews.out hone.out hNpos (by unfold maxLen; omega) (by omega) hbase w5.heap.size (by rfl) ?_)
                  intro gn cap1 w6 hown6 hgrow hat hltg
                  have hb26 : Below w2.heap.size w2 w6 := Below.grown hb25H.out hgrow hbase (fun q hq => by
                    have : w2.heap.size = q := by simpa [Value.ownBlock] using hq
                    omega)
                  have hown6' : OwnsN w2.heap.size (some ⟨gn, 0, none⟩) cap1 (listNd (-1) false :: itemNd :: N.map Nd.deep2) w6 := by
                    unfold OwnsN
                    rw [show listNd (-1) false :: itemNd :: N.map Nd.deep2 = [listNd (-1) false, itemNd] ++ N.map Nd.deep2 from rfl, List.length_append, List.length_map, show ndCells ([listNd (-1) false, itemNd] ++ N.map Nd.deep2) = ndCells [listNd (-1) false, itemNd] ++ ndCells (N.map Nd.deep2) by simp [ndCells]]
                    exact hown6
                  have hown26 : OwnsN B2 (some ⟨g2, 0, none⟩) cp2 (listNd (-1) false :: itemNd :: N.map Nd.deep2) w6 := by
                    refine World.ownsRow.kept hown255H.out hgrow (.inr ?_)
                    show (some g2 : Option Nat) ≠ some w2.heap.size
                    exact fun e => hB2g.out _ rfl (by simpa using e)
                  have hSm := hid (same_true B2 w2.heap.size (some ⟨g2, 0, none⟩) (some ⟨gn, 0, none⟩) cp2 cap1 (listNd (-1) false :: itemNd :: N.map Nd.deep2) w6 hown26 hown6' (by simp only [List.length_cons, List.length_map]; omega))
                  simp only [List.length_cons, List.length_map] at hSm
                  have hb26H := hid hb26
                  have hadd : 2 + N.length = N.length + 1 + 1 := by omega
                  have hz6 : w2.heap.size ≤ w6.heap.size := hb26.size
                  clear hown6 hgrow hat hltg hb26 hown6' hown26
                  rw [hadd]
                  go_wp2_with fail
                  refine hSm.out.mono ?_
                  rintro e w7 ⟨rfl, hb7⟩
                  have hb7H := hid (hb26H.out.trans (hb7.mono hz6))
                  clear hb7
                  go_wp2
                  go_ret
                  exact ⟨rfl, hb2H.out.trans (hb7H.out.mono hz2w)⟩
    · by_cases hn0 : 0 ≤ num
      · by_cases hn10 : num < 10
        · skip
          obtain ⟨c, hc⟩ : ∃ c : UInt8, (c.toNat : Int) = 48 + num := ⟨UInt8.ofNat (48 + num.toNat), by rw [UInt8.toNat_ofNat']; omega⟩
          have hcd : S.isDig c = true := by simp [S.isDig]; omega
          have hcn : ((c.toNat - 48 : Nat) : Int) = num := by omega
          have kc : (convert 45 9 (.slice (some ⟨w2.heap.size + 1, 0, none⟩) 3 3)).run Tryz.prog ((w2.alloc (.cells #[.int .i64 0, .int .i64 6, .int .i64 (-1), .string ⟨#[]⟩, .string ⟨#[]⟩, .int .i64 1, .int .i64 7, .int .i64 0, .string ⟨#[]⟩, .string ⟨#[]⟩] 36)).alloc (.cells #[.int .u8 (48 + num), .int .u8 41, .int .u8 32] 5)) = .ok (.string ⟨#[c, 41, 32]⟩) ((w2.alloc (.cells #[.int .i64 0, .int .i64 6, .int .i64 (-1), .string ⟨#[]⟩, .string ⟨#[]⟩, .int .i64 1, .int .i64 7, .int .i64 0, .string ⟨#[]⟩, .string ⟨#[]⟩] 36)).alloc (.cells #[.int .u8 (48 + num), .int .u8 41, .int .u8 32] 5)) := by
            refine run_convert_bytes_back _ 45 9 5 ⟨w2.heap.size + 1, 0, none⟩ 3 [c, 41, 32] Tryz.underlying45 Tryz.underlying5 Tryz.underlying9 ?_
            intro j hj
            have hsz : (w2.alloc (.cells #[.int .i64 0, .int .i64 6, .int .i64 (-1), .string ⟨#[]⟩, .string ⟨#[]⟩, .int .i64 1, .int .i64 7, .int .i64 0, .string ⟨#[]⟩, .string ⟨#[]⟩] 36)).heap.size = w2.heap.size + 1 := by simp
            have ha : (⟨w2.heap.size + 1, 0, none⟩ : Addr).add j = ⟨(w2.alloc (.cells #[.int .i64 0, .int .i64 6, .int .i64 (-1), .string ⟨#[]⟩, .string ⟨#[]⟩, .int .i64 1, .int .i64 7, .int .i64 0, .string ⟨#[]⟩, .string ⟨#[]⟩] 36)).heap.size, j, none⟩ := by
              rw [hsz]; simp only [Addr.add]; split
              · rename_i h; simp <;> omega
              · simp <;> omega
            rw [ha]
            refine cell_blk (alloc_new _ _) j _ ?_
            match j, hj with
            | 0, _ => show some (Value.int .u8 (48 + num)) = some (.int .u8 (c.toNat : Int)); rw [hc]
            | 1, _ => rfl
            | 2, _ => rfl
            | j + 3, hj => simp at hj; omega
          have hcdH := hid hcd
          have hcnH := hid hcn
          clear hc
          go_wp2
          obtain ⟨W, hW⟩ : ∃ W, W = ((w2.alloc (.cells #[.int .i64 0, .int .i64 6, .int .i64 num, .string ⟨#[]⟩, .string ⟨#[]⟩, .int .i64 1, .int .i64 7, .int .i64 0, .string ⟨#[]⟩, .string ⟨#[]⟩] 36)).alloc (.cells #[.int .u8 (48 + num), .int .u8 41, .int .u8 32] 5)) := ⟨_, rfl⟩
          have hbW : Below w2.heap.size w2 W := by rw [hW]; exact ((Below.refl _ _).alloc (Nat.le_refl _) _).alloc (by simp) _
          have hNW : W.heap[w2.heap.size]? = some (.cells #[.int .i64 0, .int .i64 6, .int .i64 num, .string ⟨#[]⟩, .string ⟨#[]⟩, .int .i64 1, .int .i64 7, .int .i64 0, .string ⟨#[]⟩, .string ⟨#[]⟩] 36 (0, 0)) := by
            rw [hW]; rw [Below.heap_alloc _ _ _ (by simp)]; exact alloc_new _ _
          rw [← hW]
          obtain ⟨M, hMM⟩ : ∃ M : List UInt8, M = [c, 41, 32] := ⟨_, rfl⟩
          have hMk : S.Marks M num 41 := by rw [hMM]; exact (by have h := S.marks_dig c hcd; rwa [hcn] at h)
          have hMl : M.length = 3 := by rw [hMM]; rfl
          have hMb : Hid (S.B M = ⟨#[c, 41, 32]⟩) := hid (by rw [hMM]; rfl)
          have hIn : Hid (∀ x : ByteArray, ⟨#[32, 32, 32]⟩ ++ x = S.B (S.inn M.length x.data.toList)) := hid (fun x => by
            rw [hMl]; conv => lhs; rw [← S.B_data x]
            exact (B_append (List.replicate 3 32) x.data.toList))
          obtain ⟨L, hLL⟩ : ∃ L, L = S.listRow M xo.data.toList (dat ts) := ⟨_, rfl⟩
          have hLlen : L.length = ts.length + 1 := by rw [hLL, S.listRow_len, dat_length]
          have hqlen : (bodyOf L).length = bytes (xo.data.toList :: dat ts) + (ts.length + 1) + 3 * (ts.length + 1) := by
            rw [hLL, bodyOf_listed, S.listedOf_len, dat_length, hMl]
          have hby : bytes (dat (xo :: ts)) = bytes (xo.data.toList :: dat ts) := rfl
          have hsm0 := hsumH.out
          simp only [List.length_cons] at hsm0
          rw [hby] at hsm0
          have hbig : (bodyOf L).length ≤ 8000000 := by omega
          have hstart : Hid (⟨#[c, 41, 32]⟩ ++ xo ++ ⟨#[10]⟩ = S.B (bodyOf (L.take 1))) := hid (by
            rw [← hMb.out]
            conv => lhs; rw [← S.B_data xo]
            rw [B_append, B_push, hLL]
            simp [S.listRow, bodyOf])
          have hnext : Hid (∀ k x, 1 ≤ k → (xo :: ts)[k]? = some x → S.B (bodyOf (L.take k)) ++ ⟨#[32, 32, 32]⟩ ++ x ++ ⟨#[10]⟩ = S.B (bodyOf (L.take (k + 1)))) := hid (fun k x hk hx => by
            have hd : (xo.data.toList :: dat ts)[k]? = some x.data.toList := by
              rw [show xo.data.toList :: dat ts = dat (xo :: ts) from rfl, dat_get, hx]; rfl
            have hg := listRow_get M _ _ k _ hd hk
            rw [← hLL] at hg
            have e : S.B (bodyOf (L.take k)) ++ ⟨#[32, 32, 32]⟩ ++ x ++ ⟨#[10]⟩ = (S.B (bodyOf (L.take k)) ++ (⟨#[32, 32, 32]⟩ ++ x)) ++ ⟨#[10]⟩ := congrArg (fun z => z ++ (⟨#[10]⟩ : ByteArray)) ByteArray.append_assoc
            rw [e, bodyOf_snoc _ _ _ hg, hIn.out x, B_append, B_push, List.append_assoc])
          have hfin : Hid (bodyOf (L.take (ts.length + 1)) = S.listedOf M xo.data.toList (dat ts)) := hid (by rw [← hLlen, List.take_length, hLL]; rfl)
          have htk : Hid (∀ k, (bodyOf (L.take k)).length ≤ (bodyOf L).length) := hid (fun k => bodyOf_take_le L k)
          have hbWH := hid hbW
          have hNWH := hid hNW
          have hcW := hid (hcw.out W hbW)
          have hMkH := hid hMk
          have hqlH := hid (And.intro hqlen hsm0)
          have hzW : w2.heap.size < W.heap.size := (Array.getElem?_eq_some_iff.1 hNW).1
          clear hW hbW hNW hMM hMk hLL hqlen hby hsm0 hLlen
          rw [hstart.out]
          go_loop [13, 14] (fun t i => ∃ k : Nat, 1 ≤ k ∧ k ≤ ts.length + 1 ∧ t = .string (S.B (bodyOf (L.take k))) ∧ i = .int .i64 k) (fun _ i => ts.length + 1 - (intOf i).toNat)
          case atStart => exact ⟨1, Nat.le_refl _, by omega, rfl, rfl⟩
          case round =>
            obtain ⟨k, hk1, hk, rfl, rfl⟩ := hrel
            have hbs : (S.B (bodyOf (L.take k))).size ≤ 8000000 := by rw [S.size_B]; have := htk.out k; omega
            by_cases hlt : k < ts.length + 1
            · obtain ⟨x, hx⟩ : ∃ x, (xo :: ts)[k]? = some x := ⟨(xo :: ts)[k], List.getElem?_eq_getElem (by simp only [List.length_cons]; omega)⟩
              have hcell := hcW.out k x hx
              have hsxk := hxsz.out k x hx
              have hnx := hid (hnext.out k x hk1 hx)
              have hlti : (k : Int) < (ts.length : Int) + 1 := by omega
              have hk0i : (0 : Int) ≤ (k : Int) := by omega
              clear hx
              go_wp2
              go_round
              case rel => exact ⟨k + 1, by omega, by omega, by rw [hnx.out], by go_num⟩
              case measure => simp [intOf]; omega
            · obtain rfl : k = ts.length + 1 := by omega
              have hlti : ¬ (ts.length : Int) + 1 < (ts.length : Int) + 1 := by omega
              obtain ⟨q, hq⟩ : ∃ q, S.B (bodyOf (L.take (ts.length + 1))) = q := ⟨_, rfl⟩
              have hqd : Hid (q.data.toList = S.listedOf M xo.data.toList (dat ts)) := hid (by rw [← hq, S.data_B]; exact hfin.out)
              have hqz : q.size = bytes (xo.data.toList :: dat ts) + (ts.length + 1) + 3 * (ts.length + 1) := by
                rw [← S.length_data, hqd.out, S.listedOf_len, dat_length, hMl]
              rw [hq] at hbs ⊢
              clear hq
              by_cases h15 : 1500 < q.size
              · have h15i : (1500 : Int) < (q.size : Int) := by omega
                clear hqz
                go_wp2
                go_ret
                exact ⟨rfl, hb2H.out.trans (hbWH.out.mono hz2w)⟩
              · have h15i : ¬ (1500 : Int) < (q.size : Int) := by omega
                have hss : s.size ≤ 1500 := by have := hqlH.out.2; omega
                have hT1 := hid (tree_all s W hss (henv2.out.below hbWH.out))
                have hT2 := hid (fun (wx : World) (hx : Below W.heap.size W wx) => tree_all q wx (by omega) ((henv2.out.below hbWH.out).below hx))
                obtain ⟨lo, hlo⟩ := nodes_listed M num 41 hMkH.out s.data.toList xo.data.toList (dat ts) hLs.out hplain.out.1 hplain.out.2.1 hplain.out.2.2
                rw [deep_deep, ← hqd.out] at hlo
                have hdp : Hid (∀ x ∈ nodesOf s.data.toList, 0 ≤ x.depth ∧ x.depth < 1000000) := hid (fun x hx => by
                  have := nodesOf_depth _ x hx
                  rw [S.length_data] at this
                  exact ⟨this.1, by omega⟩)
                have hnl := nodesOf_len s.data.toList
                rw [S.length_data] at hnl
                obtain ⟨N, hNN⟩ : ∃ N, nodesOf s.data.toList = N := ⟨_, rfl⟩
                rw [hNN] at hT1 hlo hdp hnl
                rw [hlo] at hT2
                simp only [List.length_cons, List.length_map] at hT2
                have hNl : N.length ≤ 30010 := by omega
                clear hNN hqz hnl hlo
                go_wp2_with fail
                refine hT1.out.mono ?_
                rintro e w3 ⟨B1, a1, cp1, rfl, hB1, hown1, hb3⟩
                have hown1H := hid hown1
                have hb3H := hid hb3
                have hT2' := hid (hT2.out w3 hb3)
                have hz3 : W.heap.size ≤ w3.heap.size := hb3.size
                clear hown1 hb3
                go_wp2_with fail
                refine hT2'.out.mono ?_
                rintro e w4 ⟨B2, a2, cp2, rfl, hB2, hown2, hb4⟩
                have hown2H := hid hown2
                obtain ⟨g2, rfl, hg2, hg2l, t0, t1, t2, t3, t4'⟩ := ownsN_at hown2 0 (listNd num lo) rfl
                have t4 : w4.cell? ⟨g2, 4, none⟩ = some (.string (spacingOf lo)) := t4'
                clear t0 t1 t2 t3 t4'
                have hb4H := hid hb4
                have hz4 : w3.heap.size ≤ w4.heap.size := hb4.size
                have hN4 : w4.heap[w2.heap.size]? = some (.cells #[.int .i64 0, .int .i64 6, .int .i64 num, .string ⟨#[]⟩, .string ⟨#[]⟩, .int .i64 1, .int .i64 7, .int .i64 0, .string ⟨#[]⟩, .string ⟨#[]⟩] 36 (0, 0)) := by
                  rw [hb4.block _ (by omega), hb3H.out.block _ hzW]; exact hNWH.out
                have d4 : w4.cell? ⟨w2.heap.size, 4, none⟩ = some (.string ⟨#[]⟩) := cell_blk hN4 4 _ rfl
                have df := free_blk hN4
                have hN4H := hid hN4
                have hb24H : Hid (Below w2.heap.size w2 w4) := hid (hbWH.out.trans ((hb3H.out.mono (by omega)).trans (hb4.mono (by omega))))
                have hlb : (0 : Int) < (N.length : Int) + 1 + 1 := by omega
                have hlb0 : (0 : Int) ≤ 0 := by omega
                clear hown2 hb4 hN4
                cases lo with
                | true =>
                  have hloE : spacingOf true = ⟨#[108, 111, 111, 115, 101]⟩ := rfl
                  rw [hloE] at t4
                  have hleq : ((⟨#[108, 111, 111, 115, 101]⟩ : ByteArray).toList == [108, 111, 111, 115, 101]) = true := by kernel_rfl
                  clear hloE
                  obtain ⟨W5, hW5⟩ : ∃ W5, W5 = w4.setCell ⟨w2.heap.size, 4, none⟩ (.string ⟨#[108, 111, 111, 115, 101]⟩) := ⟨_, rfl⟩
                  have hN5 : W5.heap[w2.heap.size]? = some (.cells #[.int .i64 0, .int .i64 6, .int .i64 num, .string ⟨#[]⟩, .string ⟨#[108, 111, 111, 115, 101]⟩, .int .i64 1, .int .i64 7, .int .i64 0, .string ⟨#[]⟩, .string ⟨#[]⟩] 36 (0, 0)) := by
                    rw [hW5]; exact set_blk hN4H.out 4 (.string ⟨#[108, 111, 111, 115, 101]⟩)
                  have hs5 : W5.heap.size = w4.heap.size := by rw [hW5]; simp [World.setCell]
                  have hown15 : OwnsN B1 a1 cp1 N W5 := by rw [hW5]; exact ownsN_far (hown1H.out.below hb4H.out) _ _ _ (by omega)
                  have hown25 : OwnsN B2 (some ⟨g2, 0, none⟩) cp2 (listNd num true :: itemNd :: N.map Nd.deep2) W5 := by rw [hW5]; exact ownsN_far hown2H.out _ _ _ (by omega)
                  have hownW : OwnsN w2.heap.size (some ⟨w2.heap.size, 0, none⟩) 2 [listNd num true, itemNd] W5 := by
                    refine ⟨rfl, .inr ⟨w2.heap.size, 2, _, rfl, Nat.le_refl _, hN5, Nat.le_refl _, by decide, rfl, rfl⟩⟩
                  have hb5 : Below w2.heap.size w2 W5 := by rw [hW5]; exact (hb24H.out).setCell (Nat.le_refl _) _
                  have hD := hid (deeper_two B1 a1 cp1 N W5 hown15 (by omega) hdp.out)
                  have hown25H := hid hown25
                  have hownWH := hid hownW
                  have hb5H := hid hb5
                  have hs5H := hid hs5
                  clear hown15 hown25 hownW hb5 hN5 hs5
                  go_wp2_with fail
                  rw [← hW5]
                  clear hW5
                  refine hD.out.mono ?_
                  rintro e w5 ⟨a5, cp5, rfl, hown5, hb55, h50⟩
                  have hs5' := hs5H.out
                  have hz5 : w4.heap.size ≤ w5.heap.size := by have := hb55.size; omega
                  have hownW5 : OwnsN w2.heap.size (some ⟨w2.heap.size, 0, none⟩) 2 [listNd num true, itemNd] w5 := hownWH.out.below hb55
                  have hown255 : OwnsN B2 (some ⟨g2, 0, none⟩) cp2 (listNd num true :: itemNd :: N.map Nd.deep2) w5 := hown25H.out.below hb55
                  have hb25 : Below w2.heap.size w2 w5 := hb5H.out.trans (hb55.mono (by omega))
                  have hbase : w2.heap.size ≤ w5.heap.size := hb25.size
                  by_cases hN0 : N = []
                  · subst hN0
                    obtain ⟨rfl, rfl⟩ := h50 rfl
                    have hSm := hid (same_true B2 w2.heap.size (some ⟨g2, 0, none⟩) (some ⟨w2.heap.size, 0, none⟩) cp2 2 [listNd num true, itemNd] w5 hown255 hownW5 (by simp))
                    have hownWH5 := hid hownW5
                    have hb25H := hid hb25
                    clear hs5' hb25 hownW5 hown255 hown5 hb55 h50 hD
                    go_wp2_with (at_builtin; refine wpList_append_own_none _ (by rfl) _ _ 22 (by rfl) w2.heap.size 36 i0 5 Tryz.underlying22 hi (.slice (some ⟨w2.heap.size, 0, none⟩) 2 2) 2 (ndCells [listNd num true, itemNd]) (by rfl) hownWH5.out (by rfl) ?_)
                    refine hSm.out.mono ?_
                    rintro e w6 ⟨rfl, hb6⟩
                    have hb6H := hid (hb25H.out.trans (hb6.mono hbase))
                    clear hb6
                    go_wp2
                    go_ret
                    exact ⟨rfl, hb2H.out.trans (hb6H.out.mono hz2w)⟩
                  · have hNpos : 0 < N.length := List.length_pos_iff.2 hN0
                    obtain ⟨g5, rfl, hg5, hcp5, _⟩ := OwnsN.some hown5 (by rw [List.length_map]; exact hNpos)
                    have hnews : Hid (∀ j u, (ndCells (N.map Nd.deep2))[j]? = some u → w5.cell? ((⟨g5, 0, none⟩ : Addr).add j) = some u) := hid (fun j u hu => World.ownsRow.cells hown5 (g := g5) rfl j u hu)
                    have hlen5 : Hid ((ndCells (N.map Nd.deep2)).length = N.length * 5) := hid (by have := hown5.1; rwa [List.length_map] at this)
                    have hone : Hid (∀ u ∈ ndCells (N.map Nd.deep2), u.oneCell' = true) := hid (by
                      intro u hu
                      unfold ndCells at hu
                      obtain ⟨c, hc, huc⟩ := List.mem_flatten.1 hu
                      obtain ⟨x, _, rfl⟩ := List.mem_map.1 hc
                      simp [five] at huc; rcases huc with rfl | rfl | rfl | rfl | rfl <;> rfl)
                    have hownWH5 := hid hownW5
                    have hown255H := hid hown255
                    have hb25H := hid hb25
                    have hB2g : Hid (∀ gq, (some g2 : Option Nat) = some gq → gq ≠ w2.heap.size) := hid (fun gq h => by
                      have : g2 = gq := by simpa using h
                      omega)
                    clear hs5' hb25 hownW5 hown255 hown5 hb55 h50 hD hcp5
                    go_wp2_with (at_builtin; refine wpList_append_lies _ (by rfl) _ _ 22 (by rfl) w2.heap.size 36 i0 (.agg #[.int .i64 0, .int .i64 0, .int .i64 0, .string ⟨#[]⟩, .string ⟨#[]⟩]) 5 56 Tryz.underlying22 hi hz0 hz1 hz2 (by rfl) (by omega) (.slice (some ⟨w2.heap.size, 0, none⟩) 2 2) 2 (ndCells [listNd num true, itemNd]) (by rfl) hownWH5.out ⟨g5, 0, none⟩ N.length cp5 (ndCells (N.map Nd.deep2)) (by rfl) hlen5.out hnews.out hone.out hNpos (by unfold maxLen; omega) (by omega) hbase w5.heap.size (by rfl) ?_)
                    intro gn cap1 w6 hown6 hgrow hat hltg
                    have hb26 : Below w2.heap.size w2 w6 := Below.grown hb25H.out hgrow hbase (fun q hq => by
                      have : w2.heap.size = q := by simpa [Value.ownBlock] using hq
                      omega)
                    have hown6' : OwnsN w2.heap.size (some ⟨gn, 0, none⟩) cap1 (listNd num true :: itemNd :: N.map Nd.deep2) w6 := by
                      unfold OwnsN
                      rw [show listNd num true :: itemNd :: N.map Nd.deep2 = [listNd num true, itemNd] ++ N.map Nd.deep2 from rfl, List.length_append, List.length_map, show ndCells ([listNd num true, itemNd] ++ N.map Nd.deep2) = ndCells [listNd num true, itemNd] ++ ndCells (N.map Nd.deep2) by simp [ndCells]]
                      exact hown6
                    have hown26 : OwnsN B2 (some ⟨g2, 0, none⟩) cp2 (listNd num true :: itemNd :: N.map Nd.deep2) w6 := by
                      refine World.ownsRow.kept hown255H.out hgrow (.inr ?_)
                      show (some g2 : Option Nat) ≠ some w2.heap.size
                      exact fun e => hB2g.out _ rfl (by simpa using e)
                    have hSm := hid (same_true B2 w2.heap.size (some ⟨g2, 0, none⟩) (some ⟨gn, 0, none⟩) cp2 cap1 (listNd num true :: itemNd :: N.map Nd.deep2) w6 hown26 hown6' (by simp only [List.length_cons, List.length_map]; omega))
                    simp only [List.length_cons, List.length_map] at hSm
                    have hb26H := hid hb26
                    have hadd : 2 + N.length = N.length + 1 + 1 := by omega
                    have hz6 : w2.heap.size ≤ w6.heap.size := hb26.size
                    clear hown6 hgrow hat hltg hb26 hown6' hown26
                    rw [hadd]
                    go_wp2_with fail
                    refine hSm.out.mono ?_
                    rintro e w7 ⟨rfl, hb7⟩
                    have hb7H := hid (hb26H.out.trans (hb7.mono hz6))
                    clear hb7
                    go_wp2
                    go_ret
                    exact ⟨rfl, hb2H.out.trans (hb7H.out.mono hz2w)⟩
                | false =>
                  have hloE : spacingOf false = ⟨#[116, 105, 103, 104, 116]⟩ := rfl
                  rw [hloE] at t4
                  have hleq : ((⟨#[116, 105, 103, 104, 116]⟩ : ByteArray).toList == [108, 111, 111, 115, 101]) = false := by kernel_rfl
                  clear hloE
                  obtain ⟨W5, hW5⟩ : ∃ W5, W5 = w4.setCell ⟨w2.heap.size, 4, none⟩ (.string ⟨#[116, 105, 103, 104, 116]⟩) := ⟨_, rfl⟩
                  have hN5 : W5.heap[w2.heap.size]? = some (.cells #[.int .i64 0, .int .i64 6, .int .i64 num, .string ⟨#[]⟩, .string ⟨#[116, 105, 103, 104, 116]⟩, .int .i64 1, .int .i64 7, .int .i64 0, .string ⟨#[]⟩, .string ⟨#[]⟩] 36 (0, 0)) := by
                    rw [hW5]; exact set_blk hN4H.out 4 (.string ⟨#[116, 105, 103, 104, 116]⟩)
                  have hs5 : W5.heap.size = w4.heap.size := by rw [hW5]; simp [World.setCell]
                  have hown15 : OwnsN B1 a1 cp1 N W5 := by rw [hW5]; exact ownsN_far (hown1H.out.below hb4H.out) _ _ _ (by omega)
                  have hown25 : OwnsN B2 (some ⟨g2, 0, none⟩) cp2 (listNd num false :: itemNd :: N.map Nd.deep2) W5 := by rw [hW5]; exact ownsN_far hown2H.out _ _ _ (by omega)
                  have hownW : OwnsN w2.heap.size (some ⟨w2.heap.size, 0, none⟩) 2 [listNd num false, itemNd] W5 := by
                    refine ⟨rfl, .inr ⟨w2.heap.size, 2, _, rfl, Nat.le_refl _, hN5, Nat.le_refl _, by decide, rfl, rfl⟩⟩
                  have hb5 : Below w2.heap.size w2 W5 := by rw [hW5]; exact (hb24H.out).setCell (Nat.le_refl _) _
                  have hD := hid (deeper_two B1 a1 cp1 N W5 hown15 (by omega) hdp.out)
                  have hown25H := hid hown25
                  have hownWH := hid hownW
                  have hb5H := hid hb5
                  have hs5H := hid hs5
                  clear hown15 hown25 hownW hb5 hN5 hs5
                  go_wp2_with fail
                  rw [← hW5]
                  clear hW5
                  refine hD.out.mono ?_
                  rintro e w5 ⟨a5, cp5, rfl, hown5, hb55, h50⟩
                  have hs5' := hs5H.out
                  have hz5 : w4.heap.size ≤ w5.heap.size := by have := hb55.size; omega
                  have hownW5 : OwnsN w2.heap.size (some ⟨w2.heap.size, 0, none⟩) 2 [listNd num false, itemNd] w5 := hownWH.out.below hb55
                  have hown255 : OwnsN B2 (some ⟨g2, 0, none⟩) cp2 (listNd num false :: itemNd :: N.map Nd.deep2) w5 := hown25H.out.below hb55
                  have hb25 : Below w2.heap.size w2 w5 := hb5H.out.trans (hb55.mono (by omega))
                  have hbase : w2.heap.size ≤ w5.heap.size := hb25.size
                  by_cases hN0 : N = []
                  · subst hN0
                    obtain ⟨rfl, rfl⟩ := h50 rfl
                    have hSm := hid (same_true B2 w2.heap.size (some ⟨g2, 0, none⟩) (some ⟨w2.heap.size, 0, none⟩) cp2 2 [listNd num false, itemNd] w5 hown255 hownW5 (by simp))
                    have hownWH5 := hid hownW5
                    have hb25H := hid hb25
                    clear hs5' hb25 hownW5 hown255 hown5 hb55 h50 hD
                    go_wp2_with (at_builtin; refine wpList_append_own_none _ (by rfl) _ _ 22 (by rfl) w2.heap.size 36 i0 5 Tryz.underlying22 hi (.slice (some ⟨w2.heap.size, 0, none⟩) 2 2) 2 (ndCells [listNd num false, itemNd]) (by rfl) hownWH5.out (by rfl) ?_)
                    refine hSm.out.mono ?_
                    rintro e w6 ⟨rfl, hb6⟩
                    have hb6H := hid (hb25H.out.trans (hb6.mono hbase))
                    clear hb6
                    go_wp2
                    go_ret
                    exact ⟨rfl, hb2H.out.trans (hb6H.out.mono hz2w)⟩
                  · have hNpos : 0 < N.length := List.length_pos_iff.2 hN0
                    obtain ⟨g5, rfl, hg5, hcp5, _⟩ := OwnsN.some hown5 (by rw [List.length_map]; exact hNpos)
                    have hnews : Hid (∀ j u, (ndCells (N.map Nd.deep2))[j]? = some u → w5.cell? ((⟨g5, 0, none⟩ : Addr).add j) = some u) := hid (fun j u hu => World.ownsRow.cells hown5 (g := g5) rfl j u hu)
                    have hlen5 : Hid ((ndCells (N.map Nd.deep2)).length = N.length * 5) := hid (by have := hown5.1; rwa [List.length_map] at this)
                    have hone : Hid (∀ u ∈ ndCells (N.map Nd.deep2), u.oneCell' = true) := hid (by
                      intro u hu
                      unfold ndCells at hu
                      obtain ⟨c, hc, huc⟩ := List.mem_flatten.1 hu
                      obtain ⟨x, _, rfl⟩ := List.mem_map.1 hc
                      simp [five] at huc; rcases huc with rfl | rfl | rfl | rfl | rfl <;> rfl)
                    have hownWH5 := hid hownW5
                    have hown255H := hid hown255
                    have hb25H := hid hb25
                    have hB2g : Hid (∀ gq, (some g2 : Option Nat) = some gq → gq ≠ w2.heap.size) := hid (fun gq h => by
                      have : g2 = gq := by simpa using h
                      omega)
                    clear hs5' hb25 hownW5 hown255 hown5 hb55 h50 hD hcp5
                    go_wp2_with (at_builtin; refine wpList_append_lies _ (by rfl) _ _ 22 (by rfl) w2.heap.size 36 i0 (.agg #[.int .i64 0, .int .i64 0, .int .i64 0, .string ⟨#[]⟩, .string ⟨#[]⟩]) 5 56 Tryz.underlying22 hi hz0 hz1 hz2 (by rfl) (by omega) (.slice (some ⟨w2.heap.size, 0, none⟩) 2 2) 2 (ndCells [listNd num false, itemNd]) (by rfl) hownWH5.out ⟨g5, 0, none⟩ N.length cp5 (ndCells (N.map Nd.deep2)) (by rfl) hlen5.out hnews.out hone.out hNpos (by unfold maxLen; omega) (by omega) hbase w5.heap.size (by rfl) ?_)
                    intro gn cap1 w6 hown6 hgrow hat hltg
                    have hb26 : Below w2.heap.size w2 w6 := Below.grown hb25H.out hgrow hbase (fun q hq => by
                      have : w2.heap.size = q := by simpa [Value.ownBlock] using hq
                      omega)
                    have hown6' : OwnsN w2.heap.size (some ⟨gn, 0, none⟩) cap1 (listNd num false :: itemNd :: N.map Nd.deep2) w6 := by
                      unfold OwnsN
                      rw [show listNd num false :: itemNd :: N.map Nd.deep2 = [listNd num false, itemNd] ++ N.map Nd.deep2 from rfl, List.length_append, List.length_map, show ndCells ([listNd num false, itemNd] ++ N.map Nd.deep2) = ndCells [listNd num false, itemNd] ++ ndCells (N.map Nd.deep2) by simp [ndCells]]
                      exact hown6
                    have hown26 : OwnsN B2 (some ⟨g2, 0, none⟩) cp2 (listNd num false :: itemNd :: N.map Nd.deep2) w6 := by
                      refine World.ownsRow.kept hown255H.out hgrow (.inr ?_)
                      show (some g2 : Option Nat) ≠ some w2.heap.size
                      exact fun e => hB2g.out _ rfl (by simpa using e)
                    have hSm := hid (same_true B2 w2.heap.size (some ⟨g2, 0, none⟩) (some ⟨gn, 0, none⟩) cp2 cap1 (listNd num false :: itemNd :: N.map Nd.deep2) w6 hown26 hown6' (by simp only [List.length_cons, List.length_map]; omega))
                    simp only [List.length_cons, List.length_map] at hSm
                    have hb26H := hid hb26
                    have hadd : 2 + N.length = N.length + 1 + 1 := by omega
                    have hz6 : w2.heap.size ≤ w6.heap.size := hb26.size
                    clear hown6 hgrow hat hltg hb26 hown6' hown26
                    rw [hadd]
                    go_wp2_with fail
                    refine hSm.out.mono ?_
                    rintro e w7 ⟨rfl, hb7⟩
                    have hb7H := hid (hb26H.out.trans (hb7.mono hz6))
                    clear hb7
                    go_wp2
                    go_ret
                    exact ⟨rfl, hb2H.out.trans (hb7H.out.mono hz2w)⟩
        · skip
          go_wp2
          obtain ⟨W, hW⟩ : ∃ W, W = (w2.alloc (.cells #[.int .i64 0, .int .i64 6, .int .i64 (-1), .string ⟨#[]⟩, .string ⟨#[]⟩, .int .i64 1, .int .i64 7, .int .i64 0, .string ⟨#[]⟩, .string ⟨#[]⟩] 36)) := ⟨_, rfl⟩
          have hbW : Below w2.heap.size w2 W := by rw [hW]; exact (Below.refl _ _).alloc (Nat.le_refl _) _
          have hNW : W.heap[w2.heap.size]? = some (.cells #[.int .i64 0, .int .i64 6, .int .i64 (-1), .string ⟨#[]⟩, .string ⟨#[]⟩, .int .i64 1, .int .i64 7, .int .i64 0, .string ⟨#[]⟩, .string ⟨#[]⟩] 36 (0, 0)) := by
            rw [hW]; exact alloc_new _ _
          rw [← hW]
          obtain ⟨M, hMM⟩ : ∃ M : List UInt8, M = [43, 32] := ⟨_, rfl⟩
          have hMk : S.Marks M (-1) 43 := by rw [hMM]; exact S.marks_plus
          have hMl : M.length = 2 := by rw [hMM]; rfl
          have hMb : Hid (S.B M = ⟨#[43, 32]⟩) := hid (by rw [hMM]; rfl)
          have hIn : Hid (∀ x : ByteArray, ⟨#[32, 32]⟩ ++ x = S.B (S.inn M.length x.data.toList)) := hid (fun x => by
            rw [hMl]; conv => lhs; rw [← S.B_data x]
            exact (B_append (List.replicate 2 32) x.data.toList))
          obtain ⟨L, hLL⟩ : ∃ L, L = S.listRow M xo.data.toList (dat ts) := ⟨_, rfl⟩
          have hLlen : L.length = ts.length + 1 := by rw [hLL, S.listRow_len, dat_length]
          have hqlen : (bodyOf L).length = bytes (xo.data.toList :: dat ts) + (ts.length + 1) + 2 * (ts.length + 1) := by
            rw [hLL, bodyOf_listed, S.listedOf_len, dat_length, hMl]
          have hby : bytes (dat (xo :: ts)) = bytes (xo.data.toList :: dat ts) := rfl
          have hsm0 := hsumH.out
          simp only [List.length_cons] at hsm0
          rw [hby] at hsm0
          have hbig : (bodyOf L).length ≤ 8000000 := by omega
          have hstart : Hid (⟨#[43, 32]⟩ ++ xo ++ ⟨#[10]⟩ = S.B (bodyOf (L.take 1))) := hid (by
            rw [← hMb.out]
            conv => lhs; rw [← S.B_data xo]
            rw [B_append, B_push, hLL]
            simp [S.listRow, bodyOf])
          have hnext : Hid (∀ k x, 1 ≤ k → (xo :: ts)[k]? = some x → S.B (bodyOf (L.take k)) ++ ⟨#[32, 32]⟩ ++ x ++ ⟨#[10]⟩ = S.B (bodyOf (L.take (k + 1)))) := hid (fun k x hk hx => by
            have hd : (xo.data.toList :: dat ts)[k]? = some x.data.toList := by
              rw [show xo.data.toList :: dat ts = dat (xo :: ts) from rfl, dat_get, hx]; rfl
            have hg := listRow_get M _ _ k _ hd hk
            rw [← hLL] at hg
            have e : S.B (bodyOf (L.take k)) ++ ⟨#[32, 32]⟩ ++ x ++ ⟨#[10]⟩ = (S.B (bodyOf (L.take k)) ++ (⟨#[32, 32]⟩ ++ x)) ++ ⟨#[10]⟩ := congrArg (fun z => z ++ (⟨#[10]⟩ : ByteArray)) ByteArray.append_assoc
            rw [e, bodyOf_snoc _ _ _ hg, hIn.out x, B_append, B_push, List.append_assoc])
          have hfin : Hid (bodyOf (L.take (ts.length + 1)) = S.listedOf M xo.data.toList (dat ts)) := hid (by rw [← hLlen, List.take_length, hLL]; rfl)
          have htk : Hid (∀ k, (bodyOf (L.take k)).length ≤ (bodyOf L).length) := hid (fun k => bodyOf_take_le L k)
          have hbWH := hid hbW
          have hNWH := hid hNW
          have hcW := hid (hcw.out W hbW)
          have hMkH := hid hMk
          have hqlH := hid (And.intro hqlen hsm0)
          have hzW : w2.heap.size < W.heap.size := (Array.getElem?_eq_some_iff.1 hNW).1
          clear hW hbW hNW hMM hMk hLL hqlen hby hsm0 hLlen
          rw [hstart.out]
          go_loop [13, 14] (fun t i => ∃ k : Nat, 1 ≤ k ∧ k ≤ ts.length + 1 ∧ t = .string (S.B (bodyOf (L.take k))) ∧ i = .int .i64 k) (fun _ i => ts.length + 1 - (intOf i).toNat)
          case atStart => exact ⟨1, Nat.le_refl _, by omega, rfl, rfl⟩
          case round =>
            obtain ⟨k, hk1, hk, rfl, rfl⟩ := hrel
            have hbs : (S.B (bodyOf (L.take k))).size ≤ 8000000 := by rw [S.size_B]; have := htk.out k; omega
            by_cases hlt : k < ts.length + 1
            · obtain ⟨x, hx⟩ : ∃ x, (xo :: ts)[k]? = some x := ⟨(xo :: ts)[k], List.getElem?_eq_getElem (by simp only [List.length_cons]; omega)⟩
              have hcell := hcW.out k x hx
              have hsxk := hxsz.out k x hx
              have hnx := hid (hnext.out k x hk1 hx)
              have hlti : (k : Int) < (ts.length : Int) + 1 := by omega
              have hk0i : (0 : Int) ≤ (k : Int) := by omega
              clear hx
              go_wp2
              go_round
              case rel => exact ⟨k + 1, by omega, by omega, by rw [hnx.out], by go_num⟩
              case measure => simp [intOf]; omega
            · obtain rfl : k = ts.length + 1 := by omega
              have hlti : ¬ (ts.length : Int) + 1 < (ts.length : Int) + 1 := by omega
              obtain ⟨q, hq⟩ : ∃ q, S.B (bodyOf (L.take (ts.length + 1))) = q := ⟨_, rfl⟩
              have hqd : Hid (q.data.toList = S.listedOf M xo.data.toList (dat ts)) := hid (by rw [← hq, S.data_B]; exact hfin.out)
              have hqz : q.size = bytes (xo.data.toList :: dat ts) + (ts.length + 1) + 2 * (ts.length + 1) := by
                rw [← S.length_data, hqd.out, S.listedOf_len, dat_length, hMl]
              rw [hq] at hbs ⊢
              clear hq
              by_cases h15 : 1500 < q.size
              · have h15i : (1500 : Int) < (q.size : Int) := by omega
                clear hqz
                go_wp2
                go_ret
                exact ⟨rfl, hb2H.out.trans (hbWH.out.mono hz2w)⟩
              · have h15i : ¬ (1500 : Int) < (q.size : Int) := by omega
                have hss : s.size ≤ 1500 := by have := hqlH.out.2; omega
                have hT1 := hid (tree_all s W hss (henv2.out.below hbWH.out))
                have hT2 := hid (fun (wx : World) (hx : Below W.heap.size W wx) => tree_all q wx (by omega) ((henv2.out.below hbWH.out).below hx))
                obtain ⟨lo, hlo⟩ := nodes_listed M (-1) 43 hMkH.out s.data.toList xo.data.toList (dat ts) hLs.out hplain.out.1 hplain.out.2.1 hplain.out.2.2
                rw [deep_deep, ← hqd.out] at hlo
                have hdp : Hid (∀ x ∈ nodesOf s.data.toList, 0 ≤ x.depth ∧ x.depth < 1000000) := hid (fun x hx => by
                  have := nodesOf_depth _ x hx
                  rw [S.length_data] at this
                  exact ⟨this.1, by omega⟩)
                have hnl := nodesOf_len s.data.toList
                rw [S.length_data] at hnl
                obtain ⟨N, hNN⟩ : ∃ N, nodesOf s.data.toList = N := ⟨_, rfl⟩
                rw [hNN] at hT1 hlo hdp hnl
                rw [hlo] at hT2
                simp only [List.length_cons, List.length_map] at hT2
                have hNl : N.length ≤ 30010 := by omega
                clear hNN hqz hnl hlo
                go_wp2_with fail
                refine hT1.out.mono ?_
                rintro e w3 ⟨B1, a1, cp1, rfl, hB1, hown1, hb3⟩
                have hown1H := hid hown1
                have hb3H := hid hb3
                have hT2' := hid (hT2.out w3 hb3)
                have hz3 : W.heap.size ≤ w3.heap.size := hb3.size
                clear hown1 hb3
                go_wp2_with fail
                refine hT2'.out.mono ?_
                rintro e w4 ⟨B2, a2, cp2, rfl, hB2, hown2, hb4⟩
                have hown2H := hid hown2
                obtain ⟨g2, rfl, hg2, hg2l, t0, t1, t2, t3, t4'⟩ := ownsN_at hown2 0 (listNd (-1) lo) rfl
                have t4 : w4.cell? ⟨g2, 4, none⟩ = some (.string (spacingOf lo)) := t4'
                clear t0 t1 t2 t3 t4'
                have hb4H := hid hb4
                have hz4 : w3.heap.size ≤ w4.heap.size := hb4.size
                have hN4 : w4.heap[w2.heap.size]? = some (.cells #[.int .i64 0, .int .i64 6, .int .i64 (-1), .string ⟨#[]⟩, .string ⟨#[]⟩, .int .i64 1, .int .i64 7, .int .i64 0, .string ⟨#[]⟩, .string ⟨#[]⟩] 36 (0, 0)) := by
                  rw [hb4.block _ (by omega), hb3H.out.block _ hzW]; exact hNWH.out
                have d4 : w4.cell? ⟨w2.heap.size, 4, none⟩ = some (.string ⟨#[]⟩) := cell_blk hN4 4 _ rfl
                have df := free_blk hN4
                have hN4H := hid hN4
                have hb24H : Hid (Below w2.heap.size w2 w4) := hid (hbWH.out.trans ((hb3H.out.mono (by omega)).trans (hb4.mono (by omega))))
                have hlb : (0 : Int) < (N.length : Int) + 1 + 1 := by omega
                have hlb0 : (0 : Int) ≤ 0 := by omega
                clear hown2 hb4 hN4
                cases lo with
                | true =>
                  have hloE : spacingOf true = ⟨#[108, 111, 111, 115, 101]⟩ := rfl
                  rw [hloE] at t4
                  have hleq : ((⟨#[108, 111, 111, 115, 101]⟩ : ByteArray).toList == [108, 111, 111, 115, 101]) = true := by kernel_rfl
                  clear hloE
                  obtain ⟨W5, hW5⟩ : ∃ W5, W5 = w4.setCell ⟨w2.heap.size, 4, none⟩ (.string ⟨#[108, 111, 111, 115, 101]⟩) := ⟨_, rfl⟩
                  have hN5 : W5.heap[w2.heap.size]? = some (.cells #[.int .i64 0, .int .i64 6, .int .i64 (-1), .string ⟨#[]⟩, .string ⟨#[108, 111, 111, 115, 101]⟩, .int .i64 1, .int .i64 7, .int .i64 0, .string ⟨#[]⟩, .string ⟨#[]⟩] 36 (0, 0)) := by
                    rw [hW5]; exact set_blk hN4H.out 4 (.string ⟨#[108, 111, 111, 115, 101]⟩)
                  have hs5 : W5.heap.size = w4.heap.size := by rw [hW5]; simp [World.setCell]
                  have hown15 : OwnsN B1 a1 cp1 N W5 := by rw [hW5]; exact ownsN_far (hown1H.out.below hb4H.out) _ _ _ (by omega)
                  have hown25 : OwnsN B2 (some ⟨g2, 0, none⟩) cp2 (listNd (-1) true :: itemNd :: N.map Nd.deep2) W5 := by rw [hW5]; exact ownsN_far hown2H.out _ _ _ (by omega)
                  have hownW : OwnsN w2.heap.size (some ⟨w2.heap.size, 0, none⟩) 2 [listNd (-1) true, itemNd] W5 := by
                    refine ⟨rfl, .inr ⟨w2.heap.size, 2, _, rfl, Nat.le_refl _, hN5, Nat.le_refl _, by decide, rfl, rfl⟩⟩
                  have hb5 : Below w2.heap.size w2 W5 := by rw [hW5]; exact (hb24H.out).setCell (Nat.le_refl _) _
                  have hD := hid (deeper_two B1 a1 cp1 N W5 hown15 (by omega) hdp.out)
                  have hown25H := hid hown25
                  have hownWH := hid hownW
                  have hb5H := hid hb5
                  have hs5H := hid hs5
                  clear hown15 hown25 hownW hb5 hN5 hs5
                  go_wp2_with fail
                  rw [← hW5]
                  clear hW5
                  refine hD.out.mono ?_
                  rintro e w5 ⟨a5, cp5, rfl, hown5, hb55, h50⟩
                  have hs5' := hs5H.out
                  have hz5 : w4.heap.size ≤ w5.heap.size := by have := hb55.size; omega
                  have hownW5 : OwnsN w2.heap.size (some ⟨w2.heap.size, 0, none⟩) 2 [listNd (-1) true, itemNd] w5 := hownWH.out.below hb55
                  have hown255 : OwnsN B2 (some ⟨g2, 0, none⟩) cp2 (listNd (-1) true :: itemNd :: N.map Nd.deep2) w5 := hown25H.out.below hb55
                  have hb25 : Below w2.heap.size w2 w5 := hb5H.out.trans (hb55.mono (by omega))
                  have hbase : w2.heap.size ≤ w5.heap.size := hb25.size
                  by_cases hN0 : N = []
                  · subst hN0
                    obtain ⟨rfl, rfl⟩ := h50 rfl
                    have hSm := hid (same_true B2 w2.heap.size (some ⟨g2, 0, none⟩) (some ⟨w2.heap.size, 0, none⟩) cp2 2 [listNd (-1) true, itemNd] w5 hown255 hownW5 (by simp))
                    have hownWH5 := hid hownW5
                    have hb25H := hid hb25
                    clear hs5' hb25 hownW5 hown255 hown5 hb55 h50 hD
                    go_wp2_with (at_builtin; refine wpList_append_own_none _ (by rfl) _ _ 22 (by rfl) w2.heap.size 36 i0 5 Tryz.underlying22 hi (.slice (some ⟨w2.heap.size, 0, none⟩) 2 2) 2 (ndCells [listNd (-1) true, itemNd]) (by rfl) hownWH5.out (by rfl) ?_)
                    refine hSm.out.mono ?_
                    rintro e w6 ⟨rfl, hb6⟩
                    have hb6H := hid (hb25H.out.trans (hb6.mono hbase))
                    clear hb6
                    go_wp2
                    go_ret
                    exact ⟨rfl, hb2H.out.trans (hb6H.out.mono hz2w)⟩
                  · have hNpos : 0 < N.length := List.length_pos_iff.2 hN0
                    obtain ⟨g5, rfl, hg5, hcp5, _⟩ := OwnsN.some hown5 (by rw [List.length_map]; exact hNpos)
                    have hnews : Hid (∀ j u, (ndCells (N.map Nd.deep2))[j]? = some u → w5.cell? ((⟨g5, 0, none⟩ : Addr).add j) = some u) := hid (fun j u hu => World.ownsRow.cells hown5 (g := g5) rfl j u hu)
                    have hlen5 : Hid ((ndCells (N.map Nd.deep2)).length = N.length * 5) := hid (by have := hown5.1; rwa [List.length_map] at this)
                    have hone : Hid (∀ u ∈ ndCells (N.map Nd.deep2), u.oneCell' = true) := hid (by
                      intro u hu
                      unfold ndCells at hu
                      obtain ⟨c, hc, huc⟩ := List.mem_flatten.1 hu
                      obtain ⟨x, _, rfl⟩ := List.mem_map.1 hc
                      simp [five] at huc; rcases huc with rfl | rfl | rfl | rfl | rfl <;> rfl)
                    have hownWH5 := hid hownW5
                    have hown255H := hid hown255
                    have hb25H := hid hb25
                    have hB2g : Hid (∀ gq, (some g2 : Option Nat) = some gq → gq ≠ w2.heap.size) := hid (fun gq h => by
                      have : g2 = gq := by simpa using h
                      omega)
                    clear hs5' hb25 hownW5 hown255 hown5 hb55 h50 hD hcp5
                    go_wp2_with (at_builtin; refine wpList_append_lies _ (by rfl) _ _ 22 (by rfl) w2.heap.size 36 i0 (.agg #[.int .i64 0, .int .i64 0, .int .i64 0, .string ⟨#[]⟩, .string ⟨#[]⟩]) 5 56 Tryz.underlying22 hi hz0 hz1 hz2 (by rfl) (by omega) (.slice (some ⟨w2.heap.size, 0, none⟩) 2 2) 2 (ndCells [listNd (-1) true, itemNd]) (by rfl) hownWH5.out ⟨g5, 0, none⟩ N.length cp5 (ndCells (N.map Nd.deep2)) (by rfl) hlen5.out hnews.out hone.out hNpos (by unfold maxLen; omega) (by omega) hbase w5.heap.size (by rfl) ?_)
                    intro gn cap1 w6 hown6 hgrow hat hltg
                    have hb26 : Below w2.heap.size w2 w6 := Below.grown hb25H.out hgrow hbase (fun q hq => by
                      have : w2.heap.size = q := by simpa [Value.ownBlock] using hq
                      omega)
                    have hown6' : OwnsN w2.heap.size (some ⟨gn, 0, none⟩) cap1 (listNd (-1) true :: itemNd :: N.map Nd.deep2) w6 := by
                      unfold OwnsN
                      rw [show listNd (-1) true :: itemNd :: N.map Nd.deep2 = [listNd (-1) true, itemNd] ++ N.map Nd.deep2 from rfl, List.length_append, List.length_map, show ndCells ([listNd (-1) true, itemNd] ++ N.map Nd.deep2) = ndCells [listNd (-1) true, itemNd] ++ ndCells (N.map Nd.deep2) by simp [ndCells]]
                      exact hown6
                    have hown26 : OwnsN B2 (some ⟨g2, 0, none⟩) cp2 (listNd (-1) true :: itemNd :: N.map Nd.deep2) w6 := by
                      refine World.ownsRow.kept hown255H.out hgrow (.inr ?_)
                      show (some g2 : Option Nat) ≠ some w2.heap.size
                      exact fun e => hB2g.out _ rfl (by simpa using e)
                    have hSm := hid (same_true B2 w2.heap.size (some ⟨g2, 0, none⟩) (some ⟨gn, 0, none⟩) cp2 cap1 (listNd (-1) true :: itemNd :: N.map Nd.deep2) w6 hown26 hown6' (by simp only [List.length_cons, List.length_map]; omega))
                    simp only [List.length_cons, List.length_map] at hSm
                    have hb26H := hid hb26
                    have hadd : 2 + N.length = N.length + 1 + 1 := by omega
                    have hz6 : w2.heap.size ≤ w6.heap.size := hb26.size
                    clear hown6 hgrow hat hltg hb26 hown6' hown26
                    rw [hadd]
                    go_wp2_with fail
                    refine hSm.out.mono ?_
                    rintro e w7 ⟨rfl, hb7⟩
                    have hb7H := hid (hb26H.out.trans (hb7.mono hz6))
                    clear hb7
                    go_wp2
                    go_ret
                    exact ⟨rfl, hb2H.out.trans (hb7H.out.mono hz2w)⟩
                | false =>
                  have hloE : spacingOf false = ⟨#[116, 105, 103, 104, 116]⟩ := rfl
                  rw [hloE] at t4
                  have hleq : ((⟨#[116, 105, 103, 104, 116]⟩ : ByteArray).toList == [108, 111, 111, 115, 101]) = false := by kernel_rfl
                  clear hloE
                  obtain ⟨W5, hW5⟩ : ∃ W5, W5 = w4.setCell ⟨w2.heap.size, 4, none⟩ (.string ⟨#[116, 105, 103, 104, 116]⟩) := ⟨_, rfl⟩
                  have hN5 : W5.heap[w2.heap.size]? = some (.cells #[.int .i64 0, .int .i64 6, .int .i64 (-1), .string ⟨#[]⟩, .string ⟨#[116, 105, 103, 104, 116]⟩, .int .i64 1, .int .i64 7, .int .i64 0, .string ⟨#[]⟩, .string ⟨#[]⟩] 36 (0, 0)) := by
                    rw [hW5]; exact set_blk hN4H.out 4 (.string ⟨#[116, 105, 103, 104, 116]⟩)
                  have hs5 : W5.heap.size = w4.heap.size := by rw [hW5]; simp [World.setCell]
                  have hown15 : OwnsN B1 a1 cp1 N W5 := by rw [hW5]; exact ownsN_far (hown1H.out.below hb4H.out) _ _ _ (by omega)
                  have hown25 : OwnsN B2 (some ⟨g2, 0, none⟩) cp2 (listNd (-1) false :: itemNd :: N.map Nd.deep2) W5 := by rw [hW5]; exact ownsN_far hown2H.out _ _ _ (by omega)
                  have hownW : OwnsN w2.heap.size (some ⟨w2.heap.size, 0, none⟩) 2 [listNd (-1) false, itemNd] W5 := by
                    refine ⟨rfl, .inr ⟨w2.heap.size, 2, _, rfl, Nat.le_refl _, hN5, Nat.le_refl _, by decide, rfl, rfl⟩⟩
                  have hb5 : Below w2.heap.size w2 W5 := by rw [hW5]; exact (hb24H.out).setCell (Nat.le_refl _) _
                  have hD := hid (deeper_two B1 a1 cp1 N W5 hown15 (by omega) hdp.out)
                  have hown25H := hid hown25
                  have hownWH := hid hownW
                  have hb5H := hid hb5
                  have hs5H := hid hs5
                  clear hown15 hown25 hownW hb5 hN5 hs5
                  go_wp2_with fail
                  rw [← hW5]
                  clear hW5
                  refine hD.out.mono ?_
                  rintro e w5 ⟨a5, cp5, rfl, hown5, hb55, h50⟩
                  have hs5' := hs5H.out
                  have hz5 : w4.heap.size ≤ w5.heap.size := by have := hb55.size; omega
                  have hownW5 : OwnsN w2.heap.size (some ⟨w2.heap.size, 0, none⟩) 2 [listNd (-1) false, itemNd] w5 := hownWH.out.below hb55
                  have hown255 : OwnsN B2 (some ⟨g2, 0, none⟩) cp2 (listNd (-1) false :: itemNd :: N.map Nd.deep2) w5 := hown25H.out.below hb55
                  have hb25 : Below w2.heap.size w2 w5 := hb5H.out.trans (hb55.mono (by omega))
                  have hbase : w2.heap.size ≤ w5.heap.size := hb25.size
                  by_cases hN0 : N = []
                  · subst hN0
                    obtain ⟨rfl, rfl⟩ := h50 rfl
                    have hSm := hid (same_true B2 w2.heap.size (some ⟨g2, 0, none⟩) (some ⟨w2.heap.size, 0, none⟩) cp2 2 [listNd (-1) false, itemNd] w5 hown255 hownW5 (by simp))
                    have hownWH5 := hid hownW5
                    have hb25H := hid hb25
                    clear hs5' hb25 hownW5 hown255 hown5 hb55 h50 hD
                    go_wp2_with (at_builtin; refine wpList_append_own_none _ (by rfl) _ _ 22 (by rfl) w2.heap.size 36 i0 5 Tryz.underlying22 hi (.slice (some ⟨w2.heap.size, 0, none⟩) 2 2) 2 (ndCells [listNd (-1) false, itemNd]) (by rfl) hownWH5.out (by rfl) ?_)
                    refine hSm.out.mono ?_
                    rintro e w6 ⟨rfl, hb6⟩
                    have hb6H := hid (hb25H.out.trans (hb6.mono hbase))
                    clear hb6
                    go_wp2
                    go_ret
                    exact ⟨rfl, hb2H.out.trans (hb6H.out.mono hz2w)⟩
                  · have hNpos : 0 < N.length := List.length_pos_iff.2 hN0
                    obtain ⟨g5, rfl, hg5, hcp5, _⟩ := OwnsN.some hown5 (by rw [List.length_map]; exact hNpos)
                    have hnews : Hid (∀ j u, (ndCells (N.map Nd.deep2))[j]? = some u → w5.cell? ((⟨g5, 0, none⟩ : Addr).add j) = some u) := hid (fun j u hu => World.ownsRow.cells hown5 (g := g5) rfl j u hu)
                    have hlen5 : Hid ((ndCells (N.map Nd.deep2)).length = N.length * 5) := hid (by have := hown5.1; rwa [List.length_map] at this)
                    have hone : Hid (∀ u ∈ ndCells (N.map Nd.deep2), u.oneCell' = true) := hid (by
                      intro u hu
                      unfold ndCells at hu
                      obtain ⟨c, hc, huc⟩ := List.mem_flatten.1 hu
                      obtain ⟨x, _, rfl⟩ := List.mem_map.1 hc
                      simp [five] at huc; rcases huc with rfl | rfl | rfl | rfl | rfl <;> rfl)
                    have hownWH5 := hid hownW5
                    have hown255H := hid hown255
                    have hb25H := hid hb25
                    have hB2g : Hid (∀ gq, (some g2 : Option Nat) = some gq → gq ≠ w2.heap.size) := hid (fun gq h => by
                      have : g2 = gq := by simpa using h
                      omega)
                    clear hs5' hb25 hownW5 hown255 hown5 hb55 h50 hD hcp5
                    go_wp2_with (at_builtin; refine wpList_append_lies _ (by rfl) _ _ 22 (by rfl) w2.heap.size 36 i0 (.agg #[.int .i64 0, .int .i64 0, .int .i64 0, .string ⟨#[]⟩, .string ⟨#[]⟩]) 5 56 Tryz.underlying22 hi hz0 hz1 hz2 (by rfl) (by omega) (.slice (some ⟨w2.heap.size, 0, none⟩) 2 2) 2 (ndCells [listNd (-1) false, itemNd]) (by rfl) hownWH5.out ⟨g5, 0, none⟩ N.length cp5 (ndCells (N.map Nd.deep2)) (by rfl) hlen5.out hnews.out hone.out hNpos (by unfold maxLen; omega) (by omega) hbase w5.heap.size (by rfl) ?_)
                    intro gn cap1 w6 hown6 hgrow hat hltg
                    have hb26 : Below w2.heap.size w2 w6 := Below.grown hb25H.out hgrow hbase (fun q hq => by
                      have : w2.heap.size = q := by simpa [Value.ownBlock] using hq
                      omega)
                    have hown6' : OwnsN w2.heap.size (some ⟨gn, 0, none⟩) cap1 (listNd (-1) false :: itemNd :: N.map Nd.deep2) w6 := by
                      unfold OwnsN
                      rw [show listNd (-1) false :: itemNd :: N.map Nd.deep2 = [listNd (-1) false, itemNd] ++ N.map Nd.deep2 from rfl, List.length_append, List.length_map, show ndCells ([listNd (-1) false, itemNd] ++ N.map Nd.deep2) = ndCells [listNd (-1) false, itemNd] ++ ndCells (N.map Nd.deep2) by simp [ndCells]]
                      exact hown6
                    have hown26 : OwnsN B2 (some ⟨g2, 0, none⟩) cp2 (listNd (-1) false :: itemNd :: N.map Nd.deep2) w6 := by
                      refine World.ownsRow.kept hown255H.out hgrow (.inr ?_)
                      show (some g2 : Option Nat) ≠ some w2.heap.size
                      exact fun e => hB2g.out _ rfl (by simpa using e)
                    have hSm := hid (same_true B2 w2.heap.size (some ⟨g2, 0, none⟩) (some ⟨gn, 0, none⟩) cp2 cap1 (listNd (-1) false :: itemNd :: N.map Nd.deep2) w6 hown26 hown6' (by simp only [List.length_cons, List.length_map]; omega))
                    simp only [List.length_cons, List.length_map] at hSm
                    have hb26H := hid hb26
                    have hadd : 2 + N.length = N.length + 1 + 1 := by omega
                    have hz6 : w2.heap.size ≤ w6.heap.size := hb26.size
                    clear hown6 hgrow hat hltg hb26 hown6' hown26
                    rw [hadd]
                    go_wp2_with fail
                    refine hSm.out.mono ?_
                    rintro e w7 ⟨rfl, hb7⟩
                    have hb7H := hid (hb26H.out.trans (hb7.mono hz6))
                    clear hb7
                    go_wp2
                    go_ret
                    exact ⟨rfl, hb2H.out.trans (hb7H.out.mono hz2w)⟩
      · skip
        go_wp2
        obtain ⟨W, hW⟩ : ∃ W, W = (w2.alloc (.cells #[.int .i64 0, .int .i64 6, .int .i64 (-1), .string ⟨#[]⟩, .string ⟨#[]⟩, .int .i64 1, .int .i64 7, .int .i64 0, .string ⟨#[]⟩, .string ⟨#[]⟩] 36)) := ⟨_, rfl⟩
        have hbW : Below w2.heap.size w2 W := by rw [hW]; exact (Below.refl _ _).alloc (Nat.le_refl _) _
        have hNW : W.heap[w2.heap.size]? = some (.cells #[.int .i64 0, .int .i64 6, .int .i64 (-1), .string ⟨#[]⟩, .string ⟨#[]⟩, .int .i64 1, .int .i64 7, .int .i64 0, .string ⟨#[]⟩, .string ⟨#[]⟩] 36 (0, 0)) := by
          rw [hW]; exact alloc_new _ _
        rw [← hW]
        obtain ⟨M, hMM⟩ : ∃ M : List UInt8, M = [43, 32] := ⟨_, rfl⟩
        have hMk : S.Marks M (-1) 43 := by rw [hMM]; exact S.marks_plus
        have hMl : M.length = 2 := by rw [hMM]; rfl
        have hMb : Hid (S.B M = ⟨#[43, 32]⟩) := hid (by rw [hMM]; rfl)
        have hIn : Hid (∀ x : ByteArray, ⟨#[32, 32]⟩ ++ x = S.B (S.inn M.length x.data.toList)) := hid (fun x => by
          rw [hMl]; conv => lhs; rw [← S.B_data x]
          exact (B_append (List.replicate 2 32) x.data.toList))
        obtain ⟨L, hLL⟩ : ∃ L, L = S.listRow M xo.data.toList (dat ts) := ⟨_, rfl⟩
        have hLlen : L.length = ts.length + 1 := by rw [hLL, S.listRow_len, dat_length]
        have hqlen : (bodyOf L).length = bytes (xo.data.toList :: dat ts) + (ts.length + 1) + 2 * (ts.length + 1) := by
          rw [hLL, bodyOf_listed, S.listedOf_len, dat_length, hMl]
        have hby : bytes (dat (xo :: ts)) = bytes (xo.data.toList :: dat ts) := rfl
        have hsm0 := hsumH.out
        simp only [List.length_cons] at hsm0
        rw [hby] at hsm0
        have hbig : (bodyOf L).length ≤ 8000000 := by omega
        have hstart : Hid (⟨#[43, 32]⟩ ++ xo ++ ⟨#[10]⟩ = S.B (bodyOf (L.take 1))) := hid (by
          rw [← hMb.out]
          conv => lhs; rw [← S.B_data xo]
          rw [B_append, B_push, hLL]
          simp [S.listRow, bodyOf])
        have hnext : Hid (∀ k x, 1 ≤ k → (xo :: ts)[k]? = some x → S.B (bodyOf (L.take k)) ++ ⟨#[32, 32]⟩ ++ x ++ ⟨#[10]⟩ = S.B (bodyOf (L.take (k + 1)))) := hid (fun k x hk hx => by
          have hd : (xo.data.toList :: dat ts)[k]? = some x.data.toList := by
            rw [show xo.data.toList :: dat ts = dat (xo :: ts) from rfl, dat_get, hx]; rfl
          have hg := listRow_get M _ _ k _ hd hk
          rw [← hLL] at hg
          have e : S.B (bodyOf (L.take k)) ++ ⟨#[32, 32]⟩ ++ x ++ ⟨#[10]⟩ = (S.B (bodyOf (L.take k)) ++ (⟨#[32, 32]⟩ ++ x)) ++ ⟨#[10]⟩ := congrArg (fun z => z ++ (⟨#[10]⟩ : ByteArray)) ByteArray.append_assoc
          rw [e, bodyOf_snoc _ _ _ hg, hIn.out x, B_append, B_push, List.append_assoc])
        have hfin : Hid (bodyOf (L.take (ts.length + 1)) = S.listedOf M xo.data.toList (dat ts)) := hid (by rw [← hLlen, List.take_length, hLL]; rfl)
        have htk : Hid (∀ k, (bodyOf (L.take k)).length ≤ (bodyOf L).length) := hid (fun k => bodyOf_take_le L k)
        have hbWH := hid hbW
        have hNWH := hid hNW
        have hcW := hid (hcw.out W hbW)
        have hMkH := hid hMk
        have hqlH := hid (And.intro hqlen hsm0)
        have hzW : w2.heap.size < W.heap.size := (Array.getElem?_eq_some_iff.1 hNW).1
        clear hW hbW hNW hMM hMk hLL hqlen hby hsm0 hLlen
        rw [hstart.out]
        go_loop [13, 14] (fun t i => ∃ k : Nat, 1 ≤ k ∧ k ≤ ts.length + 1 ∧ t = .string (S.B (bodyOf (L.take k))) ∧ i = .int .i64 k) (fun _ i => ts.length + 1 - (intOf i).toNat)
        case atStart => exact ⟨1, Nat.le_refl _, by omega, rfl, rfl⟩
        case round =>
          obtain ⟨k, hk1, hk, rfl, rfl⟩ := hrel
          have hbs : (S.B (bodyOf (L.take k))).size ≤ 8000000 := by rw [S.size_B]; have := htk.out k; omega
          by_cases hlt : k < ts.length + 1
          · obtain ⟨x, hx⟩ : ∃ x, (xo :: ts)[k]? = some x := ⟨(xo :: ts)[k], List.getElem?_eq_getElem (by simp only [List.length_cons]; omega)⟩
            have hcell := hcW.out k x hx
            have hsxk := hxsz.out k x hx
            have hnx := hid (hnext.out k x hk1 hx)
            have hlti : (k : Int) < (ts.length : Int) + 1 := by omega
            have hk0i : (0 : Int) ≤ (k : Int) := by omega
            clear hx
            go_wp2
            go_round
            case rel => exact ⟨k + 1, by omega, by omega, by rw [hnx.out], by go_num⟩
            case measure => simp [intOf]; omega
          · obtain rfl : k = ts.length + 1 := by omega
            have hlti : ¬ (ts.length : Int) + 1 < (ts.length : Int) + 1 := by omega
            obtain ⟨q, hq⟩ : ∃ q, S.B (bodyOf (L.take (ts.length + 1))) = q := ⟨_, rfl⟩
            have hqd : Hid (q.data.toList = S.listedOf M xo.data.toList (dat ts)) := hid (by rw [← hq, S.data_B]; exact hfin.out)
            have hqz : q.size = bytes (xo.data.toList :: dat ts) + (ts.length + 1) + 2 * (ts.length + 1) := by
              rw [← S.length_data, hqd.out, S.listedOf_len, dat_length, hMl]
            rw [hq] at hbs ⊢
            clear hq
            by_cases h15 : 1500 < q.size
            · have h15i : (1500 : Int) < (q.size : Int) := by omega
              clear hqz
              go_wp2
              go_ret
              exact ⟨rfl, hb2H.out.trans (hbWH.out.mono hz2w)⟩
            · have h15i : ¬ (1500 : Int) < (q.size : Int) := by omega
              have hss : s.size ≤ 1500 := by have := hqlH.out.2; omega
              have hT1 := hid (tree_all s W hss (henv2.out.below hbWH.out))
              have hT2 := hid (fun (wx : World) (hx : Below W.heap.size W wx) => tree_all q wx (by omega) ((henv2.out.below hbWH.out).below hx))
              obtain ⟨lo, hlo⟩ := nodes_listed M (-1) 43 hMkH.out s.data.toList xo.data.toList (dat ts) hLs.out hplain.out.1 hplain.out.2.1 hplain.out.2.2
              rw [deep_deep, ← hqd.out] at hlo
              have hdp : Hid (∀ x ∈ nodesOf s.data.toList, 0 ≤ x.depth ∧ x.depth < 1000000) := hid (fun x hx => by
                have := nodesOf_depth _ x hx
                rw [S.length_data] at this
                exact ⟨this.1, by omega⟩)
              have hnl := nodesOf_len s.data.toList
              rw [S.length_data] at hnl
              obtain ⟨N, hNN⟩ : ∃ N, nodesOf s.data.toList = N := ⟨_, rfl⟩
              rw [hNN] at hT1 hlo hdp hnl
              rw [hlo] at hT2
              simp only [List.length_cons, List.length_map] at hT2
              have hNl : N.length ≤ 30010 := by omega
              clear hNN hqz hnl hlo
              go_wp2_with fail
              refine hT1.out.mono ?_
              rintro e w3 ⟨B1, a1, cp1, rfl, hB1, hown1, hb3⟩
              have hown1H := hid hown1
              have hb3H := hid hb3
              have hT2' := hid (hT2.out w3 hb3)
              have hz3 : W.heap.size ≤ w3.heap.size := hb3.size
              clear hown1 hb3
              go_wp2_with fail
              refine hT2'.out.mono ?_
              rintro e w4 ⟨B2, a2, cp2, rfl, hB2, hown2, hb4⟩
              have hown2H := hid hown2
              obtain ⟨g2, rfl, hg2, hg2l, t0, t1, t2, t3, t4'⟩ := ownsN_at hown2 0 (listNd (-1) lo) rfl
              have t4 : w4.cell? ⟨g2, 4, none⟩ = some (.string (spacingOf lo)) := t4'
              clear t0 t1 t2 t3 t4'
              have hb4H := hid hb4
              have hz4 : w3.heap.size ≤ w4.heap.size := hb4.size
              have hN4 : w4.heap[w2.heap.size]? = some (.cells #[.int .i64 0, .int .i64 6, .int .i64 (-1), .string ⟨#[]⟩, .string ⟨#[]⟩, .int .i64 1, .int .i64 7, .int .i64 0, .string ⟨#[]⟩, .string ⟨#[]⟩] 36 (0, 0)) := by
                rw [hb4.block _ (by omega), hb3H.out.block _ hzW]; exact hNWH.out
              have d4 : w4.cell? ⟨w2.heap.size, 4, none⟩ = some (.string ⟨#[]⟩) := cell_blk hN4 4 _ rfl
              have df := free_blk hN4
              have hN4H := hid hN4
              have hb24H : Hid (Below w2.heap.size w2 w4) := hid (hbWH.out.trans ((hb3H.out.mono (by omega)).trans (hb4.mono (by omega))))
              have hlb : (0 : Int) < (N.length : Int) + 1 + 1 := by omega
              have hlb0 : (0 : Int) ≤ 0 := by omega
              clear hown2 hb4 hN4
              cases lo with
              | true =>
                have hloE : spacingOf true = ⟨#[108, 111, 111, 115, 101]⟩ := rfl
                rw [hloE] at t4
                have hleq : ((⟨#[108, 111, 111, 115, 101]⟩ : ByteArray).toList == [108, 111, 111, 115, 101]) = true := by kernel_rfl
                clear hloE
                obtain ⟨W5, hW5⟩ : ∃ W5, W5 = w4.setCell ⟨w2.heap.size, 4, none⟩ (.string ⟨#[108, 111, 111, 115, 101]⟩) := ⟨_, rfl⟩
                have hN5 : W5.heap[w2.heap.size]? = some (.cells #[.int .i64 0, .int .i64 6, .int .i64 (-1), .string ⟨#[]⟩, .string ⟨#[108, 111, 111, 115, 101]⟩, .int .i64 1, .int .i64 7, .int .i64 0, .string ⟨#[]⟩, .string ⟨#[]⟩] 36 (0, 0)) := by
                  rw [hW5]; exact set_blk hN4H.out 4 (.string ⟨#[108, 111, 111, 115, 101]⟩)
                have hs5 : W5.heap.size = w4.heap.size := by rw [hW5]; simp [World.setCell]
                have hown15 : OwnsN B1 a1 cp1 N W5 := by rw [hW5]; exact ownsN_far (hown1H.out.below hb4H.out) _ _ _ (by omega)
                have hown25 : OwnsN B2 (some ⟨g2, 0, none⟩) cp2 (listNd (-1) true :: itemNd :: N.map Nd.deep2) W5 := by rw [hW5]; exact ownsN_far hown2H.out _ _ _ (by omega)
                have hownW : OwnsN w2.heap.size (some ⟨w2.heap.size, 0, none⟩) 2 [listNd (-1) true, itemNd] W5 := by
                  refine ⟨rfl, .inr ⟨w2.heap.size, 2, _, rfl, Nat.le_refl _, hN5, Nat.le_refl _, by decide, rfl, rfl⟩⟩
                have hb5 : Below w2.heap.size w2 W5 := by rw [hW5]; exact (hb24H.out).setCell (Nat.le_refl _) _
                have hD := hid (deeper_two B1 a1 cp1 N W5 hown15 (by omega) hdp.out)
                have hown25H := hid hown25
                have hownWH := hid hownW
                have hb5H := hid hb5
                have hs5H := hid hs5
                clear hown15 hown25 hownW hb5 hN5 hs5
                go_wp2_with fail
                rw [← hW5]
                clear hW5
                refine hD.out.mono ?_
                rintro e w5 ⟨a5, cp5, rfl, hown5, hb55, h50⟩
                have hs5' := hs5H.out
                have hz5 : w4.heap.size ≤ w5.heap.size := by have := hb55.size; omega
                have hownW5 : OwnsN w2.heap.size (some ⟨w2.heap.size, 0, none⟩) 2 [listNd (-1) true, itemNd] w5 := hownWH.out.below hb55
                have hown255 : OwnsN B2 (some ⟨g2, 0, none⟩) cp2 (listNd (-1) true :: itemNd :: N.map Nd.deep2) w5 := hown25H.out.below hb55
                have hb25 : Below w2.heap.size w2 w5 := hb5H.out.trans (hb55.mono (by omega))
                have hbase : w2.heap.size ≤ w5.heap.size := hb25.size
                by_cases hN0 : N = []
                · subst hN0
                  obtain ⟨rfl, rfl⟩ := h50 rfl
                  have hSm := hid (same_true B2 w2.heap.size (some ⟨g2, 0, none⟩) (some ⟨w2.heap.size, 0, none⟩) cp2 2 [listNd (-1) true, itemNd] w5 hown255 hownW5 (by simp))
                  have hownWH5 := hid hownW5
                  have hb25H := hid hb25
                  clear hs5' hb25 hownW5 hown255 hown5 hb55 h50 hD
                  go_wp2_with (at_builtin; refine wpList_append_own_none _ (by rfl) _ _ 22 (by rfl) w2.heap.size 36 i0 5 Tryz.underlying22 hi (.slice (some ⟨w2.heap.size, 0, none⟩) 2 2) 2 (ndCells [listNd (-1) true, itemNd]) (by rfl) hownWH5.out (by rfl) ?_)
                  refine hSm.out.mono ?_
                  rintro e w6 ⟨rfl, hb6⟩
                  have hb6H := hid (hb25H.out.trans (hb6.mono hbase))
                  clear hb6
                  go_wp2
                  go_ret
                  exact ⟨rfl, hb2H.out.trans (hb6H.out.mono hz2w)⟩
                · have hNpos : 0 < N.length := List.length_pos_iff.2 hN0
                  obtain ⟨g5, rfl, hg5, hcp5, _⟩ := OwnsN.some hown5 (by rw [List.length_map]; exact hNpos)
                  have hnews : Hid (∀ j u, (ndCells (N.map Nd.deep2))[j]? = some u → w5.cell? ((⟨g5, 0, none⟩ : Addr).add j) = some u) := hid (fun j u hu => World.ownsRow.cells hown5 (g := g5) rfl j u hu)
                  have hlen5 : Hid ((ndCells (N.map Nd.deep2)).length = N.length * 5) := hid (by have := hown5.1; rwa [List.length_map] at this)
                  have hone : Hid (∀ u ∈ ndCells (N.map Nd.deep2), u.oneCell' = true) := hid (by
                    intro u hu
                    unfold ndCells at hu
                    obtain ⟨c, hc, huc⟩ := List.mem_flatten.1 hu
                    obtain ⟨x, _, rfl⟩ := List.mem_map.1 hc
                    simp [five] at huc; rcases huc with rfl | rfl | rfl | rfl | rfl <;> rfl)
                  have hownWH5 := hid hownW5
                  have hown255H := hid hown255
                  have hb25H := hid hb25
                  have hB2g : Hid (∀ gq, (some g2 : Option Nat) = some gq → gq ≠ w2.heap.size) := hid (fun gq h => by
                    have : g2 = gq := by simpa using h
                    omega)
                  clear hs5' hb25 hownW5 hown255 hown5 hb55 h50 hD hcp5
                  go_wp2_with (at_builtin; refine wpList_append_lies _ (by rfl) _ _ 22 (by rfl) w2.heap.size 36 i0 (.agg #[.int .i64 0, .int .i64 0, .int .i64 0, .string ⟨#[]⟩, .string ⟨#[]⟩]) 5 56 Tryz.underlying22 hi hz0 hz1 hz2 (by rfl) (by omega) (.slice (some ⟨w2.heap.size, 0, none⟩) 2 2) 2 (ndCells [listNd (-1) true, itemNd]) (by rfl) hownWH5.out ⟨g5, 0, none⟩ N.length cp5 (ndCells (N.map Nd.deep2)) (by rfl) hlen5.out hnews.out hone.out hNpos (by unfold maxLen; omega) (by omega) hbase w5.heap.size (by rfl) ?_)
                  intro gn cap1 w6 hown6 hgrow hat hltg
                  have hb26 : Below w2.heap.size w2 w6 := Below.grown hb25H.out hgrow hbase (fun q hq => by
                    have : w2.heap.size = q := by simpa [Value.ownBlock] using hq
                    omega)
                  have hown6' : OwnsN w2.heap.size (some ⟨gn, 0, none⟩) cap1 (listNd (-1) true :: itemNd :: N.map Nd.deep2) w6 := by
                    unfold OwnsN
                    rw [show listNd (-1) true :: itemNd :: N.map Nd.deep2 = [listNd (-1) true, itemNd] ++ N.map Nd.deep2 from rfl, List.length_append, List.length_map, show ndCells ([listNd (-1) true, itemNd] ++ N.map Nd.deep2) = ndCells [listNd (-1) true, itemNd] ++ ndCells (N.map Nd.deep2) by simp [ndCells]]
                    exact hown6
                  have hown26 : OwnsN B2 (some ⟨g2, 0, none⟩) cp2 (listNd (-1) true :: itemNd :: N.map Nd.deep2) w6 := by
                    refine World.ownsRow.kept hown255H.out hgrow (.inr ?_)
                    show (some g2 : Option Nat) ≠ some w2.heap.size
                    exact fun e => hB2g.out _ rfl (by simpa using e)
                  have hSm := hid (same_true B2 w2.heap.size (some ⟨g2, 0, none⟩) (some ⟨gn, 0, none⟩) cp2 cap1 (listNd (-1) true :: itemNd :: N.map Nd.deep2) w6 hown26 hown6' (by simp only [List.length_cons, List.length_map]; omega))
                  simp only [List.length_cons, List.length_map] at hSm
                  have hb26H := hid hb26
                  have hadd : 2 + N.length = N.length + 1 + 1 := by omega
                  have hz6 : w2.heap.size ≤ w6.heap.size := hb26.size
                  clear hown6 hgrow hat hltg hb26 hown6' hown26
                  rw [hadd]
                  go_wp2_with fail
                  refine hSm.out.mono ?_
                  rintro e w7 ⟨rfl, hb7⟩
                  have hb7H := hid (hb26H.out.trans (hb7.mono hz6))
                  clear hb7
                  go_wp2
                  go_ret
                  exact ⟨rfl, hb2H.out.trans (hb7H.out.mono hz2w)⟩
              | false =>
                have hloE : spacingOf false = ⟨#[116, 105, 103, 104, 116]⟩ := rfl
                rw [hloE] at t4
                have hleq : ((⟨#[116, 105, 103, 104, 116]⟩ : ByteArray).toList == [108, 111, 111, 115, 101]) = false := by kernel_rfl
                clear hloE
                obtain ⟨W5, hW5⟩ : ∃ W5, W5 = w4.setCell ⟨w2.heap.size, 4, none⟩ (.string ⟨#[116, 105, 103, 104, 116]⟩) := ⟨_, rfl⟩
                have hN5 : W5.heap[w2.heap.size]? = some (.cells #[.int .i64 0, .int .i64 6, .int .i64 (-1), .string ⟨#[]⟩, .string ⟨#[116, 105, 103, 104, 116]⟩, .int .i64 1, .int .i64 7, .int .i64 0, .string ⟨#[]⟩, .string ⟨#[]⟩] 36 (0, 0)) := by
                  rw [hW5]; exact set_blk hN4H.out 4 (.string ⟨#[116, 105, 103, 104, 116]⟩)
                have hs5 : W5.heap.size = w4.heap.size := by rw [hW5]; simp [World.setCell]
                have hown15 : OwnsN B1 a1 cp1 N W5 := by rw [hW5]; exact ownsN_far (hown1H.out.below hb4H.out) _ _ _ (by omega)
                have hown25 : OwnsN B2 (some ⟨g2, 0, none⟩) cp2 (listNd (-1) false :: itemNd :: N.map Nd.deep2) W5 := by rw [hW5]; exact ownsN_far hown2H.out _ _ _ (by omega)
                have hownW : OwnsN w2.heap.size (some ⟨w2.heap.size, 0, none⟩) 2 [listNd (-1) false, itemNd] W5 := by
                  refine ⟨rfl, .inr ⟨w2.heap.size, 2, _, rfl, Nat.le_refl _, hN5, Nat.le_refl _, by decide, rfl, rfl⟩⟩
                have hb5 : Below w2.heap.size w2 W5 := by rw [hW5]; exact (hb24H.out).setCell (Nat.le_refl _) _
                have hD := hid (deeper_two B1 a1 cp1 N W5 hown15 (by omega) hdp.out)
                have hown25H := hid hown25
                have hownWH := hid hownW
                have hb5H := hid hb5
                have hs5H := hid hs5
                clear hown15 hown25 hownW hb5 hN5 hs5
                go_wp2_with fail
                rw [← hW5]
                clear hW5
                refine hD.out.mono ?_
                rintro e w5 ⟨a5, cp5, rfl, hown5, hb55, h50⟩
                have hs5' := hs5H.out
                have hz5 : w4.heap.size ≤ w5.heap.size := by have := hb55.size; omega
                have hownW5 : OwnsN w2.heap.size (some ⟨w2.heap.size, 0, none⟩) 2 [listNd (-1) false, itemNd] w5 := hownWH.out.below hb55
                have hown255 : OwnsN B2 (some ⟨g2, 0, none⟩) cp2 (listNd (-1) false :: itemNd :: N.map Nd.deep2) w5 := hown25H.out.below hb55
                have hb25 : Below w2.heap.size w2 w5 := hb5H.out.trans (hb55.mono (by omega))
                have hbase : w2.heap.size ≤ w5.heap.size := hb25.size
                by_cases hN0 : N = []
                · subst hN0
                  obtain ⟨rfl, rfl⟩ := h50 rfl
                  have hSm := hid (same_true B2 w2.heap.size (some ⟨g2, 0, none⟩) (some ⟨w2.heap.size, 0, none⟩) cp2 2 [listNd (-1) false, itemNd] w5 hown255 hownW5 (by simp))
                  have hownWH5 := hid hownW5
                  have hb25H := hid hb25
                  clear hs5' hb25 hownW5 hown255 hown5 hb55 h50 hD
                  go_wp2_with (at_builtin; refine wpList_append_own_none _ (by rfl) _ _ 22 (by rfl) w2.heap.size 36 i0 5 Tryz.underlying22 hi (.slice (some ⟨w2.heap.size, 0, none⟩) 2 2) 2 (ndCells [listNd (-1) false, itemNd]) (by rfl) hownWH5.out (by rfl) ?_)
                  refine hSm.out.mono ?_
                  rintro e w6 ⟨rfl, hb6⟩
                  have hb6H := hid (hb25H.out.trans (hb6.mono hbase))
                  clear hb6
                  go_wp2
                  go_ret
                  exact ⟨rfl, hb2H.out.trans (hb6H.out.mono hz2w)⟩
                · have hNpos : 0 < N.length := List.length_pos_iff.2 hN0
                  obtain ⟨g5, rfl, hg5, hcp5, _⟩ := OwnsN.some hown5 (by rw [List.length_map]; exact hNpos)
                  have hnews : Hid (∀ j u, (ndCells (N.map Nd.deep2))[j]? = some u → w5.cell? ((⟨g5, 0, none⟩ : Addr).add j) = some u) := hid (fun j u hu => World.ownsRow.cells hown5 (g := g5) rfl j u hu)
                  have hlen5 : Hid ((ndCells (N.map Nd.deep2)).length = N.length * 5) := hid (by have := hown5.1; rwa [List.length_map] at this)
                  have hone : Hid (∀ u ∈ ndCells (N.map Nd.deep2), u.oneCell' = true) := hid (by
                    intro u hu
                    unfold ndCells at hu
                    obtain ⟨c, hc, huc⟩ := List.mem_flatten.1 hu
                    obtain ⟨x, _, rfl⟩ := List.mem_map.1 hc
                    simp [five] at huc; rcases huc with rfl | rfl | rfl | rfl | rfl <;> rfl)
                  have hownWH5 := hid hownW5
                  have hown255H := hid hown255
                  have hb25H := hid hb25
                  have hB2g : Hid (∀ gq, (some g2 : Option Nat) = some gq → gq ≠ w2.heap.size) := hid (fun gq h => by
                    have : g2 = gq := by simpa using h
                    omega)
                  clear hs5' hb25 hownW5 hown255 hown5 hb55 h50 hD hcp5
                  go_wp2_with (at_builtin; refine wpList_append_lies _ (by rfl) _ _ 22 (by rfl) w2.heap.size 36 i0 (.agg #[.int .i64 0, .int .i64 0, .int .i64 0, .string ⟨#[]⟩, .string ⟨#[]⟩]) 5 56 Tryz.underlying22 hi hz0 hz1 hz2 (by rfl) (by omega) (.slice (some ⟨w2.heap.size, 0, none⟩) 2 2) 2 (ndCells [listNd (-1) false, itemNd]) (by rfl) hownWH5.out ⟨g5, 0, none⟩ N.length cp5 (ndCells (N.map Nd.deep2)) (by rfl) hlen5.out hnews.out hone.out hNpos (by unfold maxLen; omega) (by omega) hbase w5.heap.size (by rfl) ?_)
                  intro gn cap1 w6 hown6 hgrow hat hltg
                  have hb26 : Below w2.heap.size w2 w6 := Below.grown hb25H.out hgrow hbase (fun q hq => by
                    have : w2.heap.size = q := by simpa [Value.ownBlock] using hq
                    omega)
                  have hown6' : OwnsN w2.heap.size (some ⟨gn, 0, none⟩) cap1 (listNd (-1) false :: itemNd :: N.map Nd.deep2) w6 := by
                    unfold OwnsN
                    rw [show listNd (-1) false :: itemNd :: N.map Nd.deep2 = [listNd (-1) false, itemNd] ++ N.map Nd.deep2 from rfl, List.length_append, List.length_map, show ndCells ([listNd (-1) false, itemNd] ++ N.map Nd.deep2) = ndCells [listNd (-1) false, itemNd] ++ ndCells (N.map Nd.deep2) by simp [ndCells]]
                    exact hown6
                  have hown26 : OwnsN B2 (some ⟨g2, 0, none⟩) cp2 (listNd (-1) false :: itemNd :: N.map Nd.deep2) w6 := by
                    refine World.ownsRow.kept hown255H.out hgrow (.inr ?_)
                    show (some g2 : Option Nat) ≠ some w2.heap.size
                    exact fun e => hB2g.out _ rfl (by simpa using e)
                  have hSm := hid (same_true B2 w2.heap.size (some ⟨g2, 0, none⟩) (some ⟨gn, 0, none⟩) cp2 cap1 (listNd (-1) false :: itemNd :: N.map Nd.deep2) w6 hown26 hown6' (by simp only [List.length_cons, List.length_map]; omega))
                  simp only [List.length_cons, List.length_map] at hSm
                  have hb26H := hid hb26
                  have hadd : 2 + N.length = N.length + 1 + 1 := by omega
                  have hz6 : w2.heap.size ≤ w6.heap.size := hb26.size
                  clear hown6 hgrow hat hltg hb26 hown6' hown26
                  rw [hadd]
                  go_wp2_with fail
                  refine hSm.out.mono ?_
                  rintro e w7 ⟨rfl, hb7⟩
                  have hb7H := hid (hb26H.out.trans (hb7.mono hz6))
                  clear hb7
                  go_wp2
                  go_ret
                  exact ⟨rfl, hb2H.out.trans (hb7H.out.mono hz2w)⟩
end Go.Proofs.YtlojgpkajkedeaaGreatDoor
