import Derived.Test.YtlojgpkajkedeaaGreatDoorOW3
import Derived.ProofKit
import Derived.OpenShut
import Derived.Deep.DeepHandedRow
import Derived.Deep.DeepWitnessRowRef
import Derived.Lib.LaidIn
import Derived.Stop.LaidErr
import Derived.Shelf.Vars
set_option maxHeartbeats 0
set_option maxRecDepth 100000
namespace Go.Proofs.YtlojgpkajkedeaaGreatDoor
open Go.ChangeShapes Go.WideShapes Go.ChangeAt Go.RowKit Go.Lib
theorem own:ownKnob Tryz.prog.godebug=none:=Sk
def zdm:DataW Unit->Value
 |.lit (.int a d)=>.int a d
 |_=>.nilIface
def Vo:DataW Unit->List Value
 |.agg a=>a.map zdm
 |_=>[]
def zdw:DataW Unit->List Value
 |.agg a=>a.flatMap Vo
 |_=>[]
def MU:DataW Unit->ByteArray
 |.iface _ (.ptr (.agg [.lit (.string a)]))=>⟨a.toArray⟩
 |_=>⟨#[]⟩
noncomputable def IB (d:Os):World:=
 let a:=(World.settled Tryz.prog d).heap.size
 let f:=World.holding Tryz.prog d ⟨#[.cells #[.string (MU Rows.laid_strconv_ErrSyntax)] 304,.cells #[.string (MU Rows.laid_strconv_ErrRange)] 304],#[],[]⟩
 let put (h:Array Obj) (g:Nat) (cs:Array Value):Array Obj:=h.modify g fun
  |.cells _ s j=>.cells cs s j
  |o=>o
 let k:=put (put f.heap 3 #[.iface 302 (.pointer (some a))]) 4 #[.iface 302 (.pointer (some ((a+1) 0)))]
 let l:=put k 1 (Vo Rows.laid_unicode_utf8_first).toArray
 let m:=put l 2 (zdw Rows.laid_unicode_utf8_acceptRanges).toArray
 let p:=put m 5 (Vo Rows.laid_internal_strconv_uint64pow10).toArray
 let q:=put p 6 (Vo Rows.laid_math_bits_deBruijn32tab).toArray
 let r:=put q 7 (Vo Rows.laid_math_bits_deBruijn64tab).toArray
 { f with heap:=r }
noncomputable abbrev N0:Nat:=(World.settled Tryz.prog default).heap.size
theorem zb3 (d:Os)(a:Array Value):laidMet Tryz.prog Rows.fencedRow.laid ((IB d).forCall (λ_ _=>0) ⟨#[],a,[]⟩).memory:=
 (LaidIn.of_run [6,7,5,2,4,N0+1,3,N0,1] 8 Sk Sk Sk Sk).met
theorem PD : Tryz.prog.globalNamed "strconv.ErrSyntax" = some 3 := by kernel_rfl
theorem star : "*" ++ "errors.errorString" = "*errors.errorString" := J
theorem zgg (a : TypeId)(d : Tryz.prog.typeName? 3 a = some "*errors.errorString") : a = 302 :=
 typeName_ptr_named (nm := "errors.errorString") (by rw [star]; kernel_rfl) Sk J a (by rw [star]; exact d)
theorem zg7:(Tryz.prog.globals[3]?).map (·.type)=some 106:=Sk
theorem zj5:Tryz.prog.cellsOf 304=1:=Sk
theorem Z6:Tryz.prog.cellsOf 9=1:=Sk
theorem ZP:((begin Tryz.prog (λ_ _=>0) default).world.heap[0]?).bind Obj.row?=some (#[.int .i64 0],3):=by kernel_rfl
theorem XW {W:World}(p:laidMet Tryz.prog Rows.fencedRow.laid W)(q:W.ShapedOpen Tryz.prog):Env W:=by
 have o:=p.tail.tail.tail.tail.tail;obtain⟨l,u,r,_,_,_⟩:=laid_sentinel o PD zg7 Tryz.underlying106 zgg Tryz.underlying302 Tryz.underlying304 rfl rfl Tryz.underlying9 zj5 Z6;have d:W.cell? ⟨3,0,none⟩=some (.iface 302 (.pointer (some l))):=by simpa using World.var?_cell PD r 0
 obtain⟨s,h⟩:=cell_of_shapedOpen_int q (g:=0) (t:=3) (k:=.i64) (by decide +kernel) ZP rfl (by kernel_rfl) (by kernel_rfl) Tryz.underlying3;have f:∀(g:Nat) (j:Value),W.cell? ⟨g,0,none⟩=some j->g<W.heap.size:=by
  intro g j m;rcases Nat.lt_or_ge g W.heap.size with a|a
  ·exact a
  simp[World.cell?,Array.getElem?_eq_none a]at m
 exact⟨⟨_,d,.inr ⟨_,_,rfl⟩⟩,⟨s,h⟩,f _ _ d,f _ _ h⟩
