import Derived.Test.YtlojgpkajkedeaaGreatDoorNW3
import Derived.ProofKit
import Derived.OpenShut
import Derived.Deep.DeepHandedRow
import Derived.Deep.DeepWitnessRowRef
import Derived.Lib.LaidIn
import Derived.Stop.LaidErr
import Derived.Shelf.Vars
set_option maxHeartbeats 16000000
set_option maxRecDepth 100000
namespace Go.Proofs.YtlojgpkajkedeaaGreatDoor
open Go.ChangeShapes Go.WideShapes Go.ChangeAt Go.RowKit Go.Lib
theorem own:ownKnob Tryz.prog.godebug=none:=by kernel_rfl
def litV:DataW Unit->Value
 | .lit (.int k z)=>.int k z
 | _=>.nilIface
def rowV:DataW Unit->List Value
 | .agg l=>l.map litV
 | _=>[]
def z5t:DataW Unit->List Value
 | .agg l=>l.flatMap rowV
 | _=>[]
def z5p:DataW Unit->ByteArray
 | .iface _ (.ptr (.agg [.lit (.string s)]))=>⟨s.toArray⟩
 | _=>⟨#[]⟩
noncomputable def zla (os:Os):World:=
 let N:=(World.settled Tryz.prog os).heap.size
 let w0:=World.holding Tryz.prog os ⟨#[.cells #[.string (z5p Rows.laid_strconv_ErrSyntax)] 304,.cells #[.string (z5p Rows.laid_strconv_ErrRange)] 304],#[],[]⟩
 let put (h:Array Obj) (g:Nat) (cs:Array Value):Array Obj:=h.modify g fun
  | .cells _ t frozen=>.cells cs t frozen
  | o=>o
 let h0:=put (put w0.heap 3 #[.iface 302 (.pointer (some ⟨N,0,none⟩))]) 4 #[.iface 302 (.pointer (some ⟨N+1,0,none⟩))]
 let h1:=put h0 1 (rowV Rows.laid_unicode_utf8_first).toArray
 let h2:=put h1 2 (z5t Rows.laid_unicode_utf8_acceptRanges).toArray
 let h3:=put h2 5 (rowV Rows.laid_internal_strconv_uint64pow10).toArray
 let h4:=put h3 6 (rowV Rows.laid_math_bits_deBruijn32tab).toArray
 let h5:=put h4 7 (rowV Rows.laid_math_bits_deBruijn64tab).toArray
 { w0 with heap:=h5 }
noncomputable abbrev N0:Nat:=(World.settled Tryz.prog default).heap.size
theorem z0w (os:Os)(args:Array Value):laidMet Tryz.prog Rows.fencedRow.laid ((zla os).forCall (λ_ _=>0) ⟨#[],args,[]⟩).memory:=
 (LaidIn.of_run [6,7,5,2,4,N0+1,3,N0,1] 8 (by kernel_rfl) (by kernel_rfl) (by kernel_rfl) (by kernel_rfl)).met
theorem gErr : Tryz.prog.globalNamed "strconv.ErrSyntax" = some 3 := by kernel_rfl
theorem star : "*" ++ "errors.errorString" = "*errors.errorString" := by decide
theorem z4w (u : TypeId)(h : Tryz.prog.typeName? 3 u = some "*errors.errorString") : u = 302 :=
 typeName_ptr_named (nm := "errors.errorString") (by rw [star]; kernel_rfl) (by kernel_rfl) (by decide) u (by rw [star]; exact h)
theorem z5x:(Tryz.prog.globals[3]?).map (·.type)=some 106:=by kernel_rfl
theorem z1e:Tryz.prog.cellsOf 304=1:=by kernel_rfl
theorem zzx:Tryz.prog.cellsOf 9=1:=by kernel_rfl
theorem zvw:((begin Tryz.prog (λ_ _=>0) default).world.heap[0]?).bind Obj.row?=some (#[.int .i64 0],3):=by kernel_rfl
theorem z4z {W:World}(hL:laidMet Tryz.prog Rows.fencedRow.laid W)(hsh:W.ShapedOpen Tryz.prog):Env W:=by
 have h5:=hL.tail.tail.tail.tail.tail;obtain⟨a,s,hv,_,_,_⟩:=laid_sentinel h5 gErr z5x Tryz.underlying106 z4w Tryz.underlying302 Tryz.underlying304 rfl rfl Tryz.underlying9 z1e zzx;have hc:W.cell? ⟨3,0,none⟩=some (.iface 302 (.pointer (some a))):=by simpa using World.var?_cell gErr hv 0
 obtain⟨m,hm⟩:=cell_of_shapedOpen_int hsh (g:=0) (t:=3) (k:=.i64) (by decide +kernel) zvw rfl (by kernel_rfl) (by kernel_rfl) Tryz.underlying3;have hlt:∀(g:Nat) (v:Value),W.cell? ⟨g,0,none⟩=some v->g<W.heap.size:=by
  intro g v h;rcases Nat.lt_or_ge g W.heap.size with h' | h'
  ·exact h'
  ·simp[World.cell?,Array.getElem?_eq_none h'] at h
 exact⟨⟨_,hc,.inr ⟨_,_,rfl⟩⟩,⟨m,hm⟩,hlt _ _ hc,hlt _ _ hm⟩
end Go.Proofs.YtlojgpkajkedeaaGreatDoor
