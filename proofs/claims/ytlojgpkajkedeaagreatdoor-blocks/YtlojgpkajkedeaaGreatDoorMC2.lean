import Derived.Test.YtlojgpkajkedeaaGreatDoorME1
import Derived.Deep.QuietTactic
import Derived.BigQuiet
import Derived.Deep.RegionHeld3
import Derived.Deep.AppendLies
namespace Go.Proofs.YtlojgpkajkedeaaGreatDoor
open Go.RowKit
theorem Tryz.zkk:(Tryz.prog.info? 36).map (fun i=>(i.zero,i.size,i.bytes))=some (some (.agg #[.int .i64 0,.int .i64 0,.int .i64 0,.string ⟨#[]⟩,.string ⟨#[]⟩]),5,56):=by kernel_rfl
structure Nd where
 depth:Int
 kind:Int
 n:Int
 info:ByteArray
 text:ByteArray
def five (x:Nd):List Value:=[.int .i64 x.depth,.int .i64 x.kind,.int .i64 x.n,.string x.info,.string x.text]
def zao (l:List Nd):List Value:=(l.map five).flatten
theorem zgq (l:List Nd) (x:Nd):zao (l++[x])=zao l++five x:=by simp[zao]
def zba (B:Nat) (a:Option Addr) (cp:Nat) (l:List Nd) (w:World):Prop:=w.ownsRow B 36 5 (.slice a l.length cp) l.length (zao l)
theorem zba.alloc {B:Nat} {a:Option Addr} {cp:Nat} {l:List Nd} {w:World} (h:zba B a cp l w) (o:Obj):zba B a cp l (w.alloc o):=World.ownsRow.alloc h o
theorem below_grown {w w':World} (hb:Below w.heap.size w w'):w.grownBy w' none:=⟨hb.os,hb.tape,hb.output,hb.size,fun k hk _=>hb.block k hk⟩
theorem zba.below {B:Nat} {a:Option Addr} {cp:Nat} {l:List Nd} {w w':World} (h:zba B a cp l w) (hb:Below w.heap.size w w'):zba B a cp l w':=
 World.ownsRow.kept h (below_grown hb) (by
  cases h:(Value.slice a l.length cp).ownBlock with
  | none=>exact .inl rfl
  | some g=>exact .inr (by simp))
theorem zba.nil (B:Nat) (w:World):zba B none 0 [] w:=World.ownsRow_nil _ _ _ _
def Laid (B:Nat) (own:Option Nat) (l:List Nd) (w:World) (e:Ending) (w':World):Prop:=∃ a cp,e = .returned (.slice a l.length cp)∧zba B a cp l w'∧w.grownBy w' own∧∀ g,(Value.slice a l.length cp).ownBlock=some g→own=some g∨w.heap.size≤g
theorem zbs {w w1 w2:World} {own own1:Option Nat} (h1:w.grownBy w1 own) (h2:w1.grownBy w2 own1) (h:∀ g,own1=some g→own=some g∨w.heap.size≤g):w.grownBy w2 own:=
 ⟨h2.os.trans h1.os,h2.tape.trans h1.tape,h2.output.trans h1.output,Nat.le_trans h1.size h2.size,fun k hk hne=>by
  rw[h2.block k (Nat.lt_of_lt_of_le hk h1.size) (fun e=>by rcases h k e.symm with h3|h3;exact hne h3.symm;omega),h1.block k hk hne]⟩
theorem zg8 {w w':World} (hb:Below w.heap.size w w') (own:Option Nat):w.grownBy w' own:=⟨hb.os,hb.tape,hb.output,hb.size,fun k hk _=>hb.block k hk⟩
def zl0 (loose:Bool):ByteArray:=if loose then ⟨#[108,111,111,115,101]⟩ else ⟨#[116,105,103,104,116]⟩
set_option maxHeartbeats 2000000 in
theorem zqq (k li:Int) (la:Option Addr) (lz lc:Nat) (n:Int) (info text:ByteArray) (loose:Bool) (ka:Option Addr) (kn kc:Nat) (w:World) :
  Calls Tryz.prog 82 #[.agg #[.int .i64 k,.int .i64 li,.slice la lz lc,.int .i64 n,.string info,.string text,.bool loose,.slice ka kn kc]] w fun e w'=>e = .returned (.string (zl0 loose))∧w.alloc (.cells #[.int .i64 k,.int .i64 li,.slice la lz lc,.int .i64 n,.string info,.string text,.bool loose,.slice ka kn kc] 110)=w':=by
 cases loose
 ·go_enter Tryz.func82,Tryz.ntmps82
  go_wp2
  go_ret
  exact ⟨rfl,rfl⟩
 ·go_enter Tryz.func82,Tryz.ntmps82
  go_wp2
  go_ret
  exact ⟨rfl,rfl⟩
def textOf (k:Int) (text:ByteArray) (loose:Bool):ByteArray:=if k=3 then text else if k=6 then zl0 loose else ⟨#[]⟩
set_option maxHeartbeats 4000000 in
theorem zuf (k li:Int) (la:Option Addr) (lz lc:Nat) (n:Int) (info text:ByteArray) (loose:Bool) (ka:Option Addr) (kn kc:Nat) (depth:Int) (w:World) :
  Calls Tryz.prog 62 #[.agg #[.int .i64 k,.int .i64 li,.slice la lz lc,.int .i64 n,.string info,.string text,.bool loose,.slice ka kn kc],.int .i64 depth] w fun e w'=>e = .returned (.agg #[.int .i64 depth,.int .i64 k,.int .i64 n,.string info,.string (textOf k text loose)])∧Below w.heap.size w w':=by
 have hs1:∀ o,(w.alloc o).heap.size=w.heap.size+1:=by intro o;simp
 have hs2:∀ o o2,((w.alloc o).alloc o2).heap.size=w.heap.size+2:=by intro o o2;simp
 have hR:∀ o o2 o3,(((w.alloc o).alloc o2).alloc o3).heap[w.heap.size+1]?=some o2:=by
  intro o o2 o3;rw[Below.heap_alloc _ _ _ (by simp),← hs1 o];exact za1 _ _
 have hb3:∀ o o2 o3,Below w.heap.size w (((w.alloc o).alloc o2).alloc o3):=fun o o2 o3=>(((Below.refl _ _).alloc (Nat.le_refl _) _).alloc (by simp) _).alloc (by simp;omega) _
 have hRH:=hid hR
 have hb3H:=hid hb3
 clear hR hb3 hs1 hs2
 by_cases h3:k=3
 ·subst h3
  go_enter Tryz.func62,Tryz.ntmps62
  go_wp2
  exact bodyPost_ret (v:=.agg #[.int .i64 depth,.int .i64 3,.int .i64 n,.string info,.string text]) (by simp[results,Tryz.results62,go_sem]) rfl ⟨rfl,hb3H.out _ _ _⟩
 ·by_cases h6:k=6
  ·subst h6
   go_enter Tryz.func62,Tryz.ntmps62
   go_wp2_with (go_at_call 82;refine (zqq _ _ _ _ _ _ _ _ _ _ _ _ _).mono ?_;rintro e w' ⟨rfl,rfl⟩)
   refine bodyPost_ret (v:=.agg #[.int .i64 depth,.int .i64 6,.int .i64 n,.string info,.string (zl0 loose)]) (by simp[results,Tryz.results62,go_sem]) rfl ⟨rfl,?_⟩
   exact (hb3H.out _ _ _).alloc (by simp;omega) _
  ·have h3':(k == 3)=false:=by rw[beq_eq_false_iff_ne];exact h3
   have h6':(k == 6)=false:=by rw[beq_eq_false_iff_ne];exact h6
   have ht:Hid (textOf k text loose=⟨#[]⟩):=hid (by unfold textOf;rw[if_neg h3,if_neg h6])
   rw[ht.out]
   clear h3 h6
   go_enter Tryz.func62,Tryz.ntmps62
   go_wp2
   exact bodyPost_ret (v:=.agg #[.int .i64 depth,.int .i64 k,.int .i64 n,.string info,.string ⟨#[]⟩]) (by simp[results,Tryz.results62,go_sem]) rfl ⟨rfl,hb3H.out _ _ _⟩
set_option maxHeartbeats 4000000 in
theorem zi3 (k li:Int) (la:Option Addr) (lz lc:Nat) (n:Int) (info text:ByteArray) (loose:Bool) (ka:Option Addr) (kn kc:Nat) (depth:Int) (a:Option Addr) (ln cp:Nat) (w:World) (h1:¬ k=1) (h2:¬ k=2) :
  Calls Tryz.prog 63 #[.slice a ln cp,.agg #[.int .i64 k,.int .i64 li,.slice la lz lc,.int .i64 n,.string info,.string text,.bool loose,.slice ka kn kc],.int .i64 depth] w fun e w'=>e = .returned (.slice a ln cp)∧Below w.heap.size w w':=by
 have h1':(k == 1)=false:=by rw[beq_eq_false_iff_ne];exact h1
 have h2':(k == 2)=false:=by rw[beq_eq_false_iff_ne];exact h2
 have h1n:(k != 1)=true:=by simp[bne,h1']
 have h2n:(k != 2)=true:=by simp[bne,h2']
 clear h1 h2
 go_enter Tryz.func63,Tryz.ntmps63
 go_wp2
 go_ret
 exact ⟨rfl,(Below.refl _ _).alloc (Nat.le_refl _) _⟩
end Go.Proofs.YtlojgpkajkedeaaGreatDoor
