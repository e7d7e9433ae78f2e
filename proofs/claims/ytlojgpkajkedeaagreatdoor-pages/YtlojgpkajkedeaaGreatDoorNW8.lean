import Derived.Test.YtlojgpkajkedeaaGreatDoorNStr
import Derived.Test.YtlojgpkajkedeaaGreatDoorNW7
import Derived.Test.YtlojgpkajkedeaaGreatDoorNW6
set_option maxHeartbeats 16000000
set_option maxRecDepth 100000
namespace Go.Proofs.YtlojgpkajkedeaaGreatDoor
open Go.RowKit Go.Proofs.Tryz
theorem zfs (s:ByteArray)(w:World)(hs0:s.size<=140737488355328)(henv:Env w):Calls prog 182 #[.string s] w λe w'=>e=.returned (.bool (S.zco s.data.toList))/\Below w.heap.size w w':=by
 have hs:s.size<=maxLen:=by unfold maxLen;omega
 have hT:Hid (S.zco s.data.toList=(S.blank s.data.toList||decide (0<S.zab s.data.toList)||S.zbz s.data.toList||decide (0<S.zaq s.data.toList)||S.zat s.data.toList||(S.fence s.data.toList).ok||((S.item s.data.toList).ok&&(!(S.item s.data.toList).empty&&((S.item s.data.toList).number == -1||(S.item s.data.toList).number == 1))))):=hid rfl;cases hB:S.blank s.data.toList
 case true=>
  have hf:Hid (S.zco s.data.toList=true):=hid (by rw[hT.out,hB];rfl);go_enter func182,ntmps182;go_wp2_with (go_at_call 111;refine(zbc _ _ hs).mono ?_;rintro e w'⟨rfl,rfl⟩)
  go_ret;exact⟨zb1 hf.out.symm,Below.refl _ _⟩
 case false=>
 by_cases hU:0<S.zab s.data.toList
 ·have hf:Hid (S.zco s.data.toList=true):=hid (by rw[hT.out,decide_eq_true hU];simp);go_enter func182,ntmps182;go_wp2_with (first|(go_at_call 111;refine(zbc _ _ hs).mono ?_;rintro e w'⟨rfl,rfl⟩)|(go_at_call 184;refine(zbr _ _ hs).mono ?_;rintro e w'⟨rfl,rfl⟩))
  go_ret;exact⟨zb1 hf.out.symm,Below.refl _ _⟩
 cases hR:S.zbz s.data.toList
 case true=>
  have hf:Hid (S.zco s.data.toList=true):=hid (by rw[hT.out,hR];simp);go_enter func182,ntmps182;go_wp2_with (first|(go_at_call 111;refine(zbc _ _ hs).mono ?_;rintro e w'⟨rfl,rfl⟩)|(go_at_call 184;refine(zbr _ _ hs).mono ?_;rintro e w'⟨rfl,rfl⟩)|(go_at_call 114;refine(zdv _ _ hs).mono ?_;rintro e w'⟨rfl,rfl⟩))
  go_ret;exact⟨zb1 hf.out.symm,Below.refl _ _⟩
 case false=>
 by_cases hL:0<S.zaq s.data.toList
 ·have hf:Hid (S.zco s.data.toList=true):=hid (by rw[hT.out,decide_eq_true hL];simp);go_enter func182,ntmps182;go_wp2_with (first|(go_at_call 111;refine(zbc _ _ hs).mono ?_;rintro e w'⟨rfl,rfl⟩)|(go_at_call 184;refine(zbr _ _ hs).mono ?_;rintro e w'⟨rfl,rfl⟩)|(go_at_call 114;refine(zdv _ _ hs).mono ?_;rintro e w'⟨rfl,rfl⟩)|(go_at_call 115;refine(zeg _ _ hs).mono ?_;rintro e w'⟨rfl,rfl⟩))
  go_ret;exact⟨zb1 hf.out.symm,Below.refl _ _⟩
 cases hQ:S.zat s.data.toList
 case true=>
  have hf:Hid (S.zco s.data.toList=true):=hid (by rw[hT.out,hQ];simp);go_enter func182,ntmps182;go_wp2_with (first|(go_at_call 111;refine(zbc _ _ hs).mono ?_;rintro e w'⟨rfl,rfl⟩)|(go_at_call 184;refine(zbr _ _ hs).mono ?_;rintro e w'⟨rfl,rfl⟩)|(go_at_call 114;refine(zdv _ _ hs).mono ?_;rintro e w'⟨rfl,rfl⟩)|(go_at_call 115;refine(zeg _ _ hs).mono ?_;rintro e w'⟨rfl,rfl⟩)|(go_at_call 119;refine(zds _ _ hs).mono ?_;rintro e w'⟨rfl,rfl⟩))
  go_ret;exact⟨zb1 hf.out.symm,Below.refl _ _⟩
 case false=>
 go_enter func182,ntmps182;go_wp2_with (first|(go_at_call 111;refine(zbc _ _ hs).mono ?_;rintro e w'⟨rfl,rfl⟩)|(go_at_call 184;refine(zbr _ _ hs).mono ?_;rintro e w'⟨rfl,rfl⟩)|(go_at_call 114;refine(zdv _ _ hs).mono ?_;rintro e w'⟨rfl,rfl⟩)|(go_at_call 115;refine(zeg _ _ hs).mono ?_;rintro e w'⟨rfl,rfl⟩)|(go_at_call 119;refine(zds _ _ hs).mono ?_;rintro e w'⟨rfl,rfl⟩))
 refine(zle s _ hs).mono ?_;rintro e w1⟨info,rfl,hi,hil,hb⟩;cases hF:(S.fence s.data.toList).ok
 case true=>
  have hf:Hid (S.zco s.data.toList=true):=hid (by rw[hT.out,hF];simp);go_wp2;go_ret;exact⟨zb1 hf.out.symm,hb.alloc (by have:=hb.size;omega) _⟩
 case false=>
 go_wp2_with fail
 refine(zjy s _ hs0 ((henv.below hb).alloc _)).mono ?_;rintro e w2⟨rfl,hb2⟩;have hb3:=(hb.alloc hb.size _).trans (hb2.mono (by have:=hb.size;simp;omega));have bg:=hid hb3;clear hb hb2 hb3;cases hO:(S.item s.data.toList).ok
 case false=>
  have hf:Hid (S.zco s.data.toList=false):=hid (by rw[hT.out,hB,hR,hQ,hF,hO,decide_eq_false hU,decide_eq_false hL];rfl);go_wp2;go_ret;exact⟨zb1 hf.out.symm,bg.out.alloc bg.out.size _⟩
 case true=>
  have hf:Hid (S.zco s.data.toList=(!(S.item s.data.toList).empty&&((S.item s.data.toList).number == -1||(S.item s.data.toList).number == 1))):=hid (by
   rw[hT.out,hB,hR,hQ,hF,hO,decide_eq_false hU,decide_eq_false hL];rfl)
  have dh:=hid (λwx=>zie ((S.item s.data.toList).kind.toNat:Int) (S.item s.data.toList).number ((S.item s.data.toList).zaa:Nat) (S.item s.data.toList).empty wx);rw[<-hf.out] at dh;go_wp2_with fail
  refine(dh.out _).mono ?_;rintro e w3⟨rfl,hb4⟩;go_wp2;go_ret;exact⟨rfl,(bg.out.alloc bg.out.size _).trans (hb4.mono (by have:=bg.out.size;simp;omega))⟩
theorem zke (a:Option Addr)(cap:Nat)(kind:UInt8)(w:World):Calls prog 181 #[.slice a 0 cap,.int .u8 (kind.toNat:Int)] w λe w'=>e=.returned (.tuple #[.agg #[.int .u8 0,.int .i64 0,.int .i64 0,.bool false],.bool false])/\Below w.heap.size w w':=by
 go_enter func181,ntmps181;go_wp2;exact bodyPost_ret (v:=.tuple #[.agg #[.int .u8 0,.int .i64 0,.int .i64 0,.bool false],.bool false]) (by simp[results,results181,go_sem]) rfl ⟨rfl,(Below.refl _ _).alloc (Qc _) _⟩
theorem zpk (b o n cap:Nat)(kind:UInt8)(s:ByteArray)(w:World)(hn:0<n)(hs:s.size<=maxLen)(hbw:b<w.heap.size)(hcell:w.cell? ⟨b,o,none⟩=some (.string s))(hr:S.zbz s.data.toList=true):Calls prog 181 #[.slice (some ⟨b,o,none⟩) n cap,.int .u8 (kind.toNat:Int)] w λe w'=>e=.returned (.tuple #[.agg #[.int .u8 0,.int .i64 0,.int .i64 0,.bool false],.bool false])/\Below w.heap.size w w':=by
 have hn0:((n:Int) == 0)=false:=by rw[Qe];omega
 have hcA:∀ob,(w.alloc ob).cell? ⟨b,o,none⟩=some (.string s):=λob=>by
  rw[((Below.refl w.heap.size w).alloc (Qc _) ob).cell (p:=⟨b,o,none⟩) hbw];exact hcell
 go_enter func181,ntmps181;go_wp2_with (go_at_call 114;refine(zdv _ _ hs).mono ?_;rintro e w'⟨rfl,rfl⟩)
 exact bodyPost_ret (v:=.tuple #[.agg #[.int .u8 0,.int .i64 0,.int .i64 0,.bool false],.bool false]) (by simp[results,results181,go_sem]) rfl ⟨rfl,(Below.refl _ _).alloc (Qc _) _⟩
theorem zop (b o n cap:Nat)(kind:UInt8)(s:ByteArray)(w:World)(hn:0<n)(hs:s.size<=140737488355328)(hbw:b<w.heap.size)(hcell:w.cell? ⟨b,o,none⟩=some (.string s))(hr:S.zbz s.data.toList=false)(henv:Env w):Calls prog 181 #[.slice (some ⟨b,o,none⟩) n cap,.int .u8 (kind.toNat:Int)] w λe w'=>e=.returned (.tuple #[.agg #[.int .u8 ((S.item s.data.toList).kind.toNat:Int),.int .i64 (S.item s.data.toList).number,.int .i64 ((S.item s.data.toList).zaa:Nat),.bool (S.item s.data.toList).empty],.bool ((S.item s.data.toList).ok&&decide ((S.item s.data.toList).kind=kind))])/\Below w.heap.size w w':=by
 have hsm:s.size<=maxLen:=by unfold maxLen;omega
 have hn0:((n:Int) == 0)=false:=by rw[Qe];omega
 have hcA:∀ob,(w.alloc ob).cell? ⟨b,o,none⟩=some (.string s):=λob=>by
  rw[((Below.refl w.heap.size w).alloc (Qc _) ob).cell (p:=⟨b,o,none⟩) hbw];exact hcell
 go_enter func181,ntmps181;go_wp2_with (go_at_call 114;refine(zdv _ _ hsm).mono ?_;rintro e w'⟨rfl,rfl⟩)
 refine(zjy s _ hs (henv.alloc _)).mono ?_;rintro e w1⟨rfl,hb⟩;have hN0:=hb.block w.heap.size (by simp);rw[za1] at hN0;have d0:=za0 hN0 0 _ rfl;have d1:=za0 hN0 1 _ rfl;have d2:=za0 hN0 2 _ rfl;have d3:=za0 hN0 3 _ rfl;have g0:=za7 hN0;have dw:w.heap.size<w1.heap.size:=by have:=hb.size;simp at this;omega
 have hbb:=hid (((Below.refl w.heap.size w).alloc (Qc _) (.cells #[.int .u8 0,.int .i64 0,.int .i64 0,.bool false] 186)).trans (hb.mono (by simp)));have dx:=hid hN0;clear hN0 hb;generalize hIt:S.item s.data.toList=it;have dh:=hid hIt;clear hIt;have hkk:Hid ((((it.kind.toNat:Int)) == (kind.toNat:Int))=decide (it.kind=kind)):=hid (by
  rw[Bool.eq_iff_iff,beq_iff_eq,decide_eq_true_iff];constructor
  ·intro h;exact Qk.1 (by omega)
  ·intro h;rw[h])
 have gy:w.heap.size≠w1.heap.size:=by omega
 have fq:w1.heap.size≠w.heap.size:=by omega
 have hfin:∀X,(((((w1.setCell ⟨w.heap.size,0,none⟩ (.int .u8 (it.kind.toNat:Int))).setCell ⟨w.heap.size,1,none⟩ (.int .i64 it.number)).setCell ⟨w.heap.size,2,none⟩ (.int .i64 (it.zaa:Nat))).setCell ⟨w.heap.size,3,none⟩ (.bool it.empty)).alloc X).heap[w.heap.size]?=some (.cells #[.int .u8 (it.kind.toNat:Int),.int .i64 it.number,.int .i64 (it.zaa:Nat),.bool it.empty] 186 (0,0)):=λX=>by
  rw[Below.heap_alloc _ _ _ (by simp[World.setCell];exact dw)];exact za3 (za3 (za3 (za3 dx.out 0 _) 1 _) 2 _) 3 _
 have z0:=hid (λX=>za0 (hfin X) 0 _ rfl);have z1:=hid (λX=>za0 (hfin X) 1 _ rfl);have z2:=hid (λX=>za0 (hfin X) 2 _ rfl);have z3:=hid (λX=>za0 (hfin X) 3 _ rfl);have bg:Hid (∀X,Below w.heap.size w (((((w1.setCell ⟨w.heap.size,0,none⟩ (.int .u8 (it.kind.toNat:Int))).setCell ⟨w.heap.size,1,none⟩ (.int .i64 it.number)).setCell ⟨w.heap.size,2,none⟩ (.int .i64 (it.zaa:Nat))).setCell ⟨w.heap.size,3,none⟩ (.bool it.empty)).alloc X)):=hid (λX=>by
  refine Below.alloc (Below.setCell (Below.setCell (Below.setCell (Below.setCell hbb.out (by simp) _) (by simp) _) (by simp) _) (by simp) _) ?_ _;simp[World.setCell];omega)
 clear hfin;cases hok:it.ok
 ·go_wp2_with fail
  go_region
  all_goals go_wp2
  refine bodyPost_ret (v:=.tuple #[.agg #[.int .u8 (it.kind.toNat:Int),.int .i64 it.number,.int .i64 (it.zaa:Nat),.bool it.empty],.bool false]) (by have z0:=z0.out;have z1:=z1.out;have z2:=z2.out;have z3:=z3.out;simp[results,results181,go_sem,z0,z1,z2,z3]) rfl ⟨?_,?_⟩
  ·rw[dh.out,hok];rfl
  ·exact(bg.out _).drew
 ·generalize hx:((it.kind.toNat:Int) == (kind.toNat:Int))=x;have gq:=hid hx;go_wp2_with fail
  go_region
  all_goals go_wp2
  refine bodyPost_ret (v:=.tuple #[.agg #[.int .u8 (it.kind.toNat:Int),.int .i64 it.number,.int .i64 (it.zaa:Nat),.bool it.empty],.bool x]) (by have z0:=z0.out;have z1:=z1.out;have z2:=z2.out;have z3:=z3.out;simp[results,results181,go_sem,z0,z1,z2,z3]) rfl ⟨?_,?_⟩
  ·rw[dh.out,hok,<-hkk.out,gq.out];rfl
  ·exact(bg.out _).drew
end Go.Proofs.YtlojgpkajkedeaaGreatDoor
