import Derived.Test.YtlojgpkajkedeaaGreatDoorW3
import Derived.ProofKit
import Derived.OpenShut
import Derived.Deep.DeepHandedRow
import Derived.Deep.DeepWitnessRowRef
import Derived.Lib.LaidIn
import Derived.Stop.LaidErr
import Derived.Shelf.Vars
import Derived.Test.YtlojgpkajkedeaaGreatDoorEJ
import Derived.Test.YtlojgpkajkedeaaGreatDoorCards
import Derived.Test.YtlojgpkajkedeaaGreatDoorTie
import Derived.ChangeSlices
import Derived.Deep.Slices
import Derived.Carry
/- What the cards share: the world of a witness, in which the listed variables hold what their initialisers lay; what the row's list and the world's shape give the walks. -/
namespace Go.Proofs.YtlojgpkajkedeaaGreatDoor
open Go.ChangeShapes Go.WideShapes Go.ChangeAt Go.RowKit Go.Lib

theorem own : ownKnob Tryz.prog.godebug = none := by kernel_rfl

/-- The cells of a datum of numbers; of rows of them. -/
def litV : DataW Unit → Value
  | .lit (.int k z) => .int k z
  | _ => .nilIface
def rowV : DataW Unit → List Value
  | .agg l => l.map litV
  | _ => []
def rowsV : DataW Unit → List Value
  | .agg l => l.flatMap rowV
  | _ => []
def textV : DataW Unit → ByteArray
  | .iface _ (.ptr (.agg [.lit (.string s)])) => ⟨s.toArray⟩
  | _ => ⟨#[]⟩

/-- The settled world with two blocks more (the two errors), the seven variables holding what their initialisers lay. -/
noncomputable def laidWorld (os : Os) : World :=
  let N := (World.settled Tryz.prog os).heap.size
  let w0 := World.holding Tryz.prog os ⟨#[.cells #[.string (textV Rows.laid_strconv_ErrSyntax)] 304, .cells #[.string (textV Rows.laid_strconv_ErrRange)] 304], #[], []⟩
  let put (h : Array Obj) (g : Nat) (cs : Array Value) : Array Obj := h.modify g fun
    | .cells _ t frozen => .cells cs t frozen
    | o => o
  let h0 := put (put w0.heap 3 #[.iface 302 (.pointer (some ⟨N, 0, none⟩))]) 4 #[.iface 302 (.pointer (some ⟨N + 1, 0, none⟩))]
  let h1 := put h0 1 (rowV Rows.laid_unicode_utf8_first).toArray
  let h2 := put h1 2 (rowsV Rows.laid_unicode_utf8_acceptRanges).toArray
  let h3 := put h2 5 (rowV Rows.laid_internal_strconv_uint64pow10).toArray
  let h4 := put h3 6 (rowV Rows.laid_math_bits_deBruijn32tab).toArray
  let h5 := put h4 7 (rowV Rows.laid_math_bits_deBruijn64tab).toArray
  { w0 with heap := h5 }
noncomputable abbrev N0 : Nat := (World.settled Tryz.prog default).heap.size

set_option maxRecDepth 1000000 in
theorem laid_met (os : Os) (args : Array Value) : laidMet Tryz.prog Rows.fencedRow.laid ((laidWorld os).forCall (fun _ _ => 0) ⟨#[], args, []⟩).memory :=
  (LaidIn.of_run [6, 7, 5, 2, 4, N0 + 1, 3, N0, 1] 8 (by kernel_rfl) (by kernel_rfl) (by kernel_rfl) (by kernel_rfl)).met

theorem gErr : Tryz.prog.globalNamed "strconv.ErrSyntax" = some 3 := by kernel_rfl
theorem star : "*" ++ "errors.errorString" = "*errors.errorString" := by decide
theorem rowErr (u : TypeId) (h : Tryz.prog.typeName? 3 u = some "*errors.errorString") : u = 302 :=
  typeName_ptr_named (nm := "errors.errorString") (by rw [star]; kernel_rfl) (by kernel_rfl) (by decide) u (by rw [star]; exact h)


theorem tyErr : (Tryz.prog.globals[3]?).map (·.type) = some 106 := by kernel_rfl
theorem cellsErr : Tryz.prog.cellsOf 304 = 1 := by kernel_rfl
theorem cellsStr : Tryz.prog.cellsOf 9 = 1 := by kernel_rfl
theorem maxLenCell : ((begin Tryz.prog (fun _ _ => 0) default).world.heap[0]?).bind Obj.row? = some (#[.int .i64 0], 3) := by kernel_rfl

/-- What the walks take of the library's variables, out of the row's list and the world's shape. -/
theorem env_of {W : World} (hL : laidMet Tryz.prog Rows.fencedRow.laid W) (hsh : W.ShapedOpen Tryz.prog) : Env W := by
  have h5 := hL.tail.tail.tail.tail.tail
  obtain ⟨a, s, hv, _, _, _⟩ := laid_sentinel h5 gErr tyErr Tryz.underlying106 rowErr Tryz.underlying302 Tryz.underlying304 rfl rfl Tryz.underlying9 cellsErr cellsStr
  have hc : W.cell? ⟨3, 0, none⟩ = some (.iface 302 (.pointer (some a))) := by simpa using World.var?_cell gErr hv 0
  obtain ⟨m, hm⟩ := cell_of_shapedOpen_int hsh (g := 0) (t := 3) (k := .i64) (by decide +kernel) maxLenCell rfl (by kernel_rfl) (by kernel_rfl) Tryz.underlying3
  have hlt : ∀ (g : Nat) (v : Value), W.cell? ⟨g, 0, none⟩ = some v → g < W.heap.size := by
    intro g v h
    rcases Nat.lt_or_ge g W.heap.size with h' | h'
    · exact h'
    · simp [World.cell?, Array.getElem?_eq_none h'] at h
  exact ⟨⟨_, hc, .inr ⟨_, _, rfl⟩⟩, ⟨m, hm⟩, hlt _ _ hc, hlt _ _ hm⟩

end Go.Proofs.YtlojgpkajkedeaaGreatDoor
/- The card of Edited. -/
namespace Go.Proofs.YtlojgpkajkedeaaGreatDoor.editedCase
open Go.ChangeShapes Go.WideShapes Go.ChangeAt Go.RowKit Go.Lib
open Go.ChangeMaps (open_string shut_string)

theorem gPow : Tryz.prog.globalNamed "internal/strconv.uint64pow10" = some 5 := by kernel_rfl
theorem tyPow : (Tryz.prog.globals[5]?).map (·.type) = some 298 := by kernel_rfl
theorem laidPow : (Rows.laid_internal_strconv_uint64pow10 : DataW Unit) = Lib.tabData .u64 Lib.pow10Tab := by kernel_rfl
/-- What the walks take of the library's variables, the table of tens among them. -/
theorem env_ofP {W : World} (hL : laidMet Tryz.prog Rows.fencedRow.laid W) (hsh : W.ShapedOpen Tryz.prog) : EnvP W.heap.size W := by
  have hE := env_of hL hsh
  have h2 : laidMet Tryz.prog (("internal/strconv.uint64pow10", Rows.laid_internal_strconv_uint64pow10) :: Rows.fencedRow.laid.drop 3) W := hL.tail.tail
  rw [laidPow] at h2
  have htab : Lib.TabIs Tryz.prog W "internal/strconv.uint64pow10" .u64 Lib.pow10Tab := Lib.tabIs_of_head gPow tyPow Tryz.underlying298 Tryz.underlying97 (by kernel_rfl) (by kernel_rfl) h2
  have hc := htab.cell gPow 0 (by decide)
  exact ⟨hE, ⟨hE.2.2.1, hE.2.2.2⟩, htab, 5, gPow, World.block_lt_of_cell? _ _ hc⟩

theorem laidOutA : laidOutB Tryz.prog = true := by kernel_rfl
theorem cellsStep : Tryz.prog.cellsOf 73 = 3 := by kernel_rfl
theorem cellsInt : Tryz.prog.cellsOf 3 = 1 := by kernel_rfl
theorem cellsStr : Tryz.prog.cellsOf 9 = 1 := by kernel_rfl

theorem typesStep : ∃ f0 f1 f2 : Field, Tryz.prog.underlying 73 = some (.struct #[f0, f1, f2]) ∧ f0.type = 3 ∧ f1.type = 3 ∧ f2.type = 9 ∧ f0.offset = 0 ∧ f1.offset = 1 ∧ f2.offset = 2 :=
  ⟨_, _, _, Tryz.underlying73, rfl, rfl, rfl, rfl, rfl, rfl⟩
theorem weightsAll_mem {H : Type} (P : Program) (e : TypeId) (l : List (DataW H)) (d : DataW H) (hd : d ∈ l) (n : Nat) (hn : n ∈ d.weights P e) : n ∈ DataW.weightsAll P e l := by
  induction l with
  | nil => simp at hd
  | cons a r ih =>
    simp only [DataW.weightsAll, List.mem_append]
    rcases List.mem_cons.1 hd with rfl | h
    · exact .inl hn
    · exact .inr (ih h)

set_option maxRecDepth 100000 in
/-- The steps, out of the argument. -/
theorem steps_of {H : Type} {enc : TypeId × Value → H} {W : World} {a0 : Option Addr} {len cap fuel : Nat} {x : DataW H × List MemPlace}
    (hf : DataW.trod enc Tryz.prog W 0 (fun _ => true) true fuel 61 [.slice a0 len cap] = some x) (hwt : ∀ n ∈ x.1.weights Tryz.prog 61, n ≤ 140737488351232) : ∃ zs : List Stp, zs.length = len ∧ zs.length ≤ 281474976710656 ∧ StepsIn a0 zs W := by
  rcases Go.Deep.open_slice Tryz.underlying61 hf with ⟨hcs, _⟩ | ⟨a, len', cap', m, n, D, Pl, hcs, _, hl, hm, hmm, hxe, hx⟩
  · simp at hcs
    obtain ⟨rfl, rfl, rfl⟩ := hcs
    exact ⟨[], rfl, by simp, fun i z h => by simp at h⟩
  · simp at hcs
    obtain ⟨rfl, rfl, rfl⟩ := hcs
    simp only [if_true] at hmm
    subst hmm
    have hw : x.1.weights Tryz.prog 61 = (((List.range len).map D).length + ((List.range (m - len)).map fun j => D (len + j)).length) * Tryz.prog.bytesOf 73 :: (DataW.weightsAll Tryz.prog 73 ((List.range len).map D) ++ DataW.weightsAll Tryz.prog 73 ((List.range (m - len)).map fun j => D (len + j))) := by
      rw [hxe]; simp only [DataW.weights]; rw [Tryz.underlying61]
    rw [hw] at hwt
    have hlen : len ≤ 140737488351232 := by
      have h1 := hwt _ (List.mem_cons_self)
      rw [show Tryz.prog.bytesOf 73 = 32 from (by kernel_rfl)] at h1
      simp at h1
      omega
    have hwd : ∀ i, i < len → ∀ n ∈ (D i).weights Tryz.prog 73, n ≤ 140737488351232 := fun i hi n hn =>
      hwt n (List.mem_cons_of_mem _ (List.mem_append_left _ (weightsAll_mem _ _ _ (D i) (List.mem_map.2 ⟨i, List.mem_range.2 hi, rfl⟩) n hn)))
    obtain ⟨f0, f1, f2, hst, t0, t1, t2, o0, o1, o2⟩ := typesStep
    have each : ∀ i, i < len → ∃ z : Stp, (∀ j u, (stpCells z)[j]? = some u → W.cell? ((a.add (i * 3)).add j) = some u) ∧ (-9223372036854775808 ≤ z.at_ ∧ z.at_ ≤ 9223372036854775807) ∧ (-9223372036854775808 ≤ z.rem ∧ z.rem ≤ 9223372036854775807) ∧ z.x.size ≤ 281474976710656 := by
      intro i hi
      obtain ⟨cs', e1, e2⟩ := hx i (by omega)
      rw [cellsStep] at e1
      obtain ⟨_, hlen, hcell⟩ := World.cells?_some e1
      obtain ⟨xs, k, hk, hxy, _, hxl, hfl⟩ := DataW.trod_struct hst e2
      match xs, hxl, cs', hlen with
      | [y0, y1, y2], _, [v0, v1, v2], _ =>
        have g0 := hfl 0 f0 rfl
        have g1 := hfl 1 f1 rfl
        have g2 := hfl 2 f2 rfl
        rw [t0, o0, cellsInt] at g0
        rw [t1, o1, cellsInt] at g1
        rw [t2, o2, cellsStr] at g2
        obtain ⟨n0, q0, _, w0⟩ := DataW.trod_int Tryz.underlying3 g0
        obtain ⟨n1, q1, _, w1⟩ := DataW.trod_int Tryz.underlying3 g1
        obtain ⟨s2, q2, r2, w2⟩ := DataW.trod_string Tryz.underlying9 g2
        simp at q0 q1 q2
        subst q0 q1 q2
        have hsz : s2.size ≤ 140737488351232 := by
          apply hwd i hi
          have hD : D i = .agg [y0.1, y1.1, y2.1] := by
            have := congrArg Prod.fst hxy
            simpa using this
          rw [hD, r2]
          simp only [DataW.weights]
          rw [hst]
          simp only [List.map_cons, DataW.weightsEach, t0, t1, t2, DataW.weights]
          simp
        refine ⟨⟨n0, n1, s2⟩, ?_, bounds_i64 w0, bounds_i64 w1, by show s2.size ≤ _; omega⟩
        intro j u hu
        have hj : j < 3 := by have := (List.getElem?_eq_some_iff.1 hu).1; simpa [stpCells] using this
        have := hcell j hj
        rw [this]
        exact hu
    haveI : Inhabited Stp := ⟨⟨0, 0, ⟨#[]⟩⟩⟩
    obtain ⟨q, hq⟩ := Go.Deep.choose_lt each
    refine ⟨(List.range len).map q, by simp, by simp; omega, ?_⟩
    intro i z hi
    have hil : i < len := by have := (List.getElem?_eq_some_iff.1 hi).1; simpa using this
    rw [List.getElem?_map, List.getElem?_range hil] at hi
    simp at hi
    subst hi
    obtain ⟨c, b1, b2, b3⟩ := hq i hil
    obtain ⟨b, off, spot⟩ := a
    have hspot : spot = none := by
      have c0 := (hq 0 (by omega)).1 0 _ rfl
      simpa [Addr.add] using World.cell?_spot c0
    subst hspot
    have hadd : ∀ j, ((⟨b, off, none⟩ : Addr).add (i * 3)).add j = ⟨b, off + i * 3 + j, none⟩ := fun j => by rw [Lib.add_plain, Lib.add_plain]
    refine ⟨b, off, rfl, ?_, fun j u hu => ?_, b1, b2, b3⟩
    · have c0 := c 0 _ rfl
      rw [hadd] at c0; exact World.block_lt_of_cell? _ _ c0
    · have := c j u hu
      rw [hadd] at this; exact this

set_option maxRecDepth 100000 in
theorem contract (H : Type) (enc : TypeId × Value → H) (W : World) (base : Nat) (args : Array Value) (ds gs : List (DataW H)) (before : List MemPlace)
    (hval : ∀ (j : Nat) t v, Tryz.f13.params[j]? = some t → args[j]? = some v → Value.okWide Tryz.prog W .any base t v)
    (hW : DataW.Whole enc Tryz.prog Tryz.f13.params.toList Rows.editedSpec.vars false W args.toList ds gs before) (hwt : (DataW.weightsEach Tryz.prog (Tryz.f13.params.toList ++ (OpenSpec.ofChange Rows.editedSpec).bare.plain.varTypes Tryz.prog) (ds ++ gs)).all (· ≤ reachBytes) = true) (henv : EnvP W.heap.size W) :
    Calls Tryz.prog 13 args W fun e W' => ∃ v, e = .returned v ∧ Rows.editedSpec.post enc Tryz.prog Tryz.f13 false true false false W args v W' := by
  have hW' := hW
  obtain ⟨p, q, hA0, hV, rfl, hfz, hnd⟩ := hW
  have hA : DataW.TrodAll enc Tryz.prog W 0 (fun _ => true) true Tryz.f13.params.toList args.toList ds p := hA0
  rw [Tryz.params13] at hA hval
  obtain ⟨v0, vs0, d0, ds0, p0, q0, hargs, rfl, rfl, h0, r0⟩ := trodAll_cons hA
  obtain ⟨v1, vs1, d1, ds1, p1, q1, hargs1, rfl, rfl, h1, r1⟩ := trodAll_cons r0
  obtain ⟨rfl, rfl, rfl⟩ := trodAll_nil r1
  subst hargs1
  obtain rfl : args = #[v0, v1] := by cases args; simp_all
  obtain ⟨rfl, rfl⟩ := trodVars_none hV
  obtain ⟨s, rfl, rfl, rfl, hmax⟩ := open_string Tryz.underlying9 (hval 0 9 v0 rfl rfl) h0
  obtain ⟨a0, len, cap, rfl⟩ := okWide_slice Tryz.underlying61 (hval 1 61 v1 rfl rfl)
  have h1k := h1
  obtain ⟨fuel, hf⟩ := h1
  clear hA0
  simp only [List.append_nil, List.nil_append] at hW'
  have hlt : ∀ x ∈ p1, x.block < W.heap.size := fun x hx => by simpa using hW'.lt x (by simpa using hx)
  have hargs2 : ∀ (W' : World), Below W.heap.size W W' → DataW.Trod enc Tryz.prog W' 0 (fun b => decide (b < W.heap.size)) true 61 (.slice a0 len cap) d1 p1 :=
    fun W' hn => Below.trod laidOutA (by kernel_rfl) (of_decide_eq_true (by kernel_rfl)) h1k hn hlt
  have hw1 : ∀ n ∈ d1.weights Tryz.prog 61, n ≤ 140737488351232 := by
    intro n hn
    have h3 := List.all_eq_true.1 hwt n (by
      rw [Tryz.params13]
      simp only [List.cons_append, DataW.weightsEach, List.mem_append]
      exact .inr (.inl hn))
    exact of_decide_eq_true h3
  obtain ⟨zs, hzl, hz2, hr⟩ := steps_of hf hw1
  subst hzl
  have hcall : Calls Tryz.prog 13 #[.string s, .slice a0 zs.length cap] W fun e w' => e = .returned (.bool true) ∧ Below W.heap.size W w' := by
    by_cases hs : s.size ≤ 1500
    · exact edited_any s a0 zs cap W hr hz2 hs henv
    · exact editedLong_any s a0 zs.length cap W (by omega) henv
  refine hcall.mono fun e W' ⟨he, hg⟩ => ?_
  subst he
  refine ⟨_, rfl, _, _, _, [], [] ++ (p1 ++ []), [], hW', trodAll_cons_mk (shut_bool Tryz.underlying4 _) trodAll_mk0, trodAll_cons_mk (shut_string Tryz.underlying9 hmax) (trodAll_cons_mk (hargs2 W' hg) trodAll_mk0), rfl, hg.frame _, fun h => by cases h⟩

theorem reads (os : Os) {H : Type} (enc : TypeId × Value → H) : ∃ places, DataW.whole enc Tryz.prog ((laidWorld os).forCall (fun _ _ => 0) ⟨#[], #[.string ⟨#[]⟩, .slice none 0 0], []⟩).memory Tryz.f13.params.toList Rows.editedSpec.vars false #[Value.string ⟨#[]⟩, .slice none 0 0].toList 8 = some ([.lit (.string []), .nil], [], places) :=
  ⟨[], by kernel_rfl⟩

set_option maxRecDepth 100000 in
theorem lifted (os : Os) (started : os.Started) (H : Type) (enc : TypeId × Value → H) (F : Stop.Interp) :
    ReturnsInHanded {} Tryz.checked os 13 .any ((OpenSpec.ofChange Rows.editedSpec).preRow enc Tryz.prog Tryz.f13 Rows.editedRow.domain false Rows.editedRow.laid) (((OpenSpec.ofChange Rows.editedSpec).at F).post enc Tryz.prog Tryz.f13 false true false false) := by
  obtain ⟨places, hx⟩ := reads os enc
  refine returnsInHanded_of_row (C := Tryz.checked) (s := OpenSpec.ofChange Rows.editedSpec) own started (by kernel_rfl) Tryz.func13
    (witness_row_atRef (enc := enc) (C := Tryz.checked) false (laidWorld os) #[.string ⟨#[]⟩, .slice none 0 0] rfl (by kernel_rfl) (by kernel_rfl) (by kernel_rfl)
      (OpenSpec.preRow_of_cond 8 hx (by kernel_rfl) (fun k hk => by cases hk) (by kernel_rfl) (laid_met os _))) ?_
  intro W base args ds gs before hval hW _ _ hwt hL hsh _
  exact contract H enc W base args ds gs before hval hW hwt (env_ofP hL hsh)

/- What the row tells of the text that it reaches: one by one, so that the kernel holds one at a time. -/
theorem factPlace : Tryz.prog.inPlace 13 = Rows.editedRow.inPlace := by kernel_rfl
theorem factFollow : Tryz.prog.unfollowed 13 = Rows.editedRow.unfollowed := by kernel_rfl
theorem factRecurse : Tryz.prog.recurses 13 = Rows.editedRow.recurses := by kernel_rfl
theorem factNamed : Tryz.prog.varsNamed 13 = Rows.editedRow.named := by kernel_rfl
theorem facts : joinedFacts Tryz.prog 13 Tryz.f13 (OpenSpec.ofChange Rows.editedSpec).bare Rows.editedRow = true := by
  unfold joinedFacts
  rw [factPlace, factFollow, factRecurse, factNamed]
  kernel_rfl

theorem said : Rows.EditedSaid :=
  OpenClaim.holds_of_cond 13 Tryz.f13 rfl rfl rfl rfl rfl rfl rfl ⟨rfl, rfl, rfl, rfl, rfl⟩ rfl rfl rfl rfl rfl (by kernel_rfl) Tryz.func13 facts
    (of_decide_eq_true (by kernel_rfl)) (by unfold Func.isWrapper; first | (rw [if_pos (by decide +kernel)]; kernel_rfl) | (rw [if_neg (by decide +kernel)]; exact ⟨rfl, rfl⟩))
    (fun os started H enc _ F => by rw [OpenClaim.pre_eq_preRow]; exact lifted os started H enc F)

theorem plain (f : FuncId) (fn : Func) (hf : Tryz.pinned.checked.prog.funcNamed "rubric/rubrickeep.Edited" = some f) (hfn : Tryz.pinned.checked.prog.funcs[f]? = some fn) :
    true = Tryz.pinned.checked.prog.looks [] ∧ ∀ (j : Nat) t, fn.params[j]? = some t → Tryz.pinned.checked.prog.wantsStandIn t = false := by
  obtain rfl : f = 13 := Option.some.inj ((show Tryz.prog.funcNamed "rubric/rubrickeep.Edited" = some 13 by kernel_rfl).symm.trans hf) |>.symm
  obtain rfl : fn = Tryz.f13 := (Option.some.inj (Tryz.func13.symm.trans hfn)).symm
  refine ⟨by kernel_rfl, fun j t ht => ?_⟩
  rw [Tryz.params13] at ht
  have hm : t = 9 ∨ t = 61 := by simpa using Array.mem_of_getElem? ht
  rcases hm with rfl | rfl
  · exact (show Tryz.prog.wantsStandIn 9 = false by kernel_rfl)
  · exact (show Tryz.prog.wantsStandIn 61 = false by kernel_rfl)
end Go.Proofs.YtlojgpkajkedeaaGreatDoor.editedCase

namespace Go.Proofs.YtlojgpkajkedeaaGreatDoor
/-- The card. -/
theorem edited_card : Rows.EditedCardSaid :=
  Claim7.holds_tied_plain_at .later [] _ _ _ _ editedCase.said (fun _ h => by cases h) (by kernel_rfl) (fun _ h => by cases h) edited_row_tie rfl ⟨rfl, rfl⟩ (by kernel_rfl) rfl editedCase.plain (by kernel_rfl)
end Go.Proofs.YtlojgpkajkedeaaGreatDoor
