import Derived.Test.YtlojgpkajkedeaaGreatDoorMD1
import Derived.Deep.RegionHeld3
namespace Go.Proofs.YtlojgpkajkedeaaGreatDoor
open Go.RowKit
namespace S
def addrOf (l:List UInt8):List UInt8:=(l.drop 1).take (zb1 [40,41,60,62] (l.drop 1))
def zd1 (l:List UInt8):Bool:=Lib.hasPrefix l [40] && Lib.hasPrefix (l.drop (1+zb1 [40,41,60,62] (l.drop 1))) [41]
def colon (l:List UInt8):Nat:=1+letters (l.drop 1)
def zdc (l:List UInt8):Nat:=colon l+zb1 [60,62] (l.drop (colon l))
def zn1 (l:List UInt8):Bool:=decide (letters (l.drop 1)<2) || decide (8<letters (l.drop 1)) || !Lib.hasPrefix (l.drop (colon l)) [58]
def zd9 (l:List UInt8):Bool:=!zn1 l && Lib.hasPrefix (l.drop (zdc l)) [62]
def zcf (l:List UInt8):List UInt8:=(l.drop 1).take (zdc l-1)
def zbr (size:Nat):Nat→List UInt8→Nat→Option Nat
 | 0,_,_=>none
 | _+1,[],_=>none
 | f+1,b::r,k=>if b=96 then (if cnt 96 (b::r)=size then some k else zbr size f ((b::r).drop (cnt 96 (b::r))) (k+cnt 96 (b::r))) else zbr size f r (k+1)
def ze6 (l:List UInt8) (size:Nat):Option Nat:=zbr size (l.length+1) (l.drop size) size
end S
set_option maxRecDepth 100000 in
set_option maxHeartbeats 2000000 in
theorem zwq (s:ByteArray) (k n:Nat) (w:World) (hs:s.size≤1000000) (hk:k<s.size) (hn:k+n≤s.size) :
  Calls Tryz.prog 202 #[.string s,.int .i64 (k:Nat),.int .i64 (n:Nat)] w fun e w'=>e = .returned (.agg #[.int .i64 (n:Nat),.bool (S.zby s.data.toList k n),.bool (S.zbe s.data.toList k n)])∧Below w.heap.size w w':=by
 have hg:=S.zaf s k hk
 obtain ⟨p,hp⟩:∃ p,S.side s.data.toList ((k:Int)-1)=p:=⟨_,rfl⟩
 obtain ⟨q,hq⟩:∃ q,S.side s.data.toList ((k+n:Nat):Int)=q:=⟨_,rfl⟩
 have hpr:p=0∨p=1∨p=2:=hp ▸ S.zh5 _ _
 have hqr:q=0∨q=1∨q=2:=hq ▸ S.zh5 _ _
 have hA:Hid (∀ wx,Calls Tryz.prog 234 #[.string s,.int .i64 ((k:Int)-1)] wx fun e w'=>e = .returned (.int .i64 p)∧wx=w'):=hid (fun wx=>by have:=zmt s ((k:Int)-1) wx (by omega) (by omega);rw[hp] at this;exact this)
 have hB:Hid (∀ wx,Calls Tryz.prog 234 #[.string s,.int .i64 ((k:Int)+(n:Int))] wx fun e w'=>e = .returned (.int .i64 q)∧wx=w'):=hid (fun wx=>by have:=zmt s ((k+n:Nat):Int) wx (by omega) (by omega);rw[hq] at this;exact this)
 have hL1:=hid (fun wx=>zm5 q p wx hqr hpr)
 have hL2:=hid (fun wx=>zm5 p q wx hpr hqr)
 obtain ⟨rt,hrt⟩:∃ rt,S.leans q p=rt:=⟨_,rfl⟩
 obtain ⟨lf,hlf⟩:∃ lf,S.leans p q=lf:=⟨_,rfl⟩
 rw[hrt] at hL1
 rw[hlf] at hL2
 have hb1:Hid (∀ o,Below w.heap.size w (w.alloc o)):=hid (fun o=>(Below.refl _ _).alloc (Nat.le_refl _) o)
 by_cases hx:s[k]=42
 ·have hxn:s[k].toNat=42:=by rw[hx];rfl
  have hO:Hid (S.zby s.data.toList k n=rt):=hid (by unfold S.zby;rw[hg,hx,if_pos rfl,hp,hq,hrt])
  have hC:Hid (S.zbe s.data.toList k n=lf):=hid (by unfold S.zbe;rw[hg,hx,if_pos rfl,hp,hq,hlf])
  rw[hO.out,hC.out]
  clear hx hg hp hq hpr hqr hrt hlf hO hC
  go_enter Tryz.func202,Tryz.ntmps202
  go_wp2_with fail
  refine (hA.out _).mono ?_
  rintro e w' ⟨rfl,rfl⟩
  go_wp2_with fail
  refine (hB.out _).mono ?_
  rintro e w' ⟨rfl,rfl⟩
  go_wp2_with fail
  refine (hL1.out _).mono ?_
  rintro e w' ⟨rfl,rfl⟩
  go_wp2_with fail
  refine (hL2.out _).mono ?_
  rintro e w' ⟨rfl,rfl⟩
  go_wp2
  exact bodyPost_ret (v:=.agg #[.int .i64 (n:Nat),.bool rt,.bool lf]) (by simp[results,Tryz.results202,go_sem]) rfl ⟨rfl,hb1.out _⟩
 ·have hxb:(((s[k].toNat:Nat):Int) == 42)=false:=by
   rw[beq_eq_false_iff_ne];intro e;exact hx (UInt8.toNat_inj.1 (by show s[k].toNat=42;omega))
  have hO:Hid (S.zby s.data.toList k n=(rt && (!lf || decide (p=1)))):=hid (by unfold S.zby;rw[hg,if_neg (by simpa using hx),hp,hq,hrt,hlf])
  have hC:Hid (S.zbe s.data.toList k n=(lf && (!rt || decide (q=1)))):=hid (by unfold S.zbe;rw[hg,if_neg (by simpa using hx),hp,hq,hrt,hlf])
  rw[hO.out,hC.out]
  clear hx hg hp hq hrt hlf hO hC
  have hp1:(p == 1)=decide (p=1):=by rw[Bool.eq_iff_iff,beq_iff_eq,decide_eq_true_iff]
  have hq1:(q == 1)=decide (q=1):=by rw[Bool.eq_iff_iff,beq_iff_eq,decide_eq_true_iff]
  generalize decide (p=1)=bp at *
  generalize decide (q=1)=bq at *
  clear hpr hqr
  cases rt <;> cases lf <;> cases bp <;> cases bq <;>
  ·go_enter Tryz.func202,Tryz.ntmps202
   go_wp2_with fail
   refine (hA.out _).mono ?_
   rintro e w' ⟨rfl,rfl⟩
   go_wp2_with fail
   refine (hB.out _).mono ?_
   rintro e w' ⟨rfl,rfl⟩
   go_wp2_with fail
   refine (hL1.out _).mono ?_
   rintro e w' ⟨rfl,rfl⟩
   go_wp2_with fail
   refine (hL2.out _).mono ?_
   rintro e w' ⟨rfl,rfl⟩
   go_wp2
   exact bodyPost_ret (v:=.agg #[.int .i64 (n:Nat),.bool _,.bool _]) (by simp[results,Tryz.results202,go_sem] <;> exact ⟨rfl,rfl⟩) rfl ⟨rfl,hb1.out _⟩
set_option maxRecDepth 100000 in
set_option maxHeartbeats 2000000 in
theorem z0b (oz sz:Nat) (oo oc so sc:Bool) (w:World) (h1:oz≤1000000) (h2:sz≤1000000) :
  Calls Tryz.prog 243 #[.agg #[.int .i64 (oz:Nat),.bool oo,.bool oc],.agg #[.int .i64 (sz:Nat),.bool so,.bool sc]] w fun e w'=>e = .returned (.bool (S.fits oz oc sz so))∧Below w.heap.size w w':=by
 have hb1:Hid (∀ o1 o2,Below w.heap.size w ((w.alloc o1).alloc o2)):=hid (fun o1 o2=>((Below.refl _ _).alloc (Nat.le_refl _) o1).alloc (by simp) o2)
 cases oc <;> cases so
 ·go_enter Tryz.func243,Tryz.ntmps243
  go_wp2
  go_ret
  exact ⟨rfl,hb1.out _ _⟩
 all_goals (
  by_cases e1:oz % 3=0 <;> by_cases e2:sz % 3=0 <;> by_cases e3:(oz+sz) % 3=0
  all_goals (first|omega|(
   have i1:((oz:Int) % 3 == 0)=decide (oz % 3=0):=by rw[Bool.eq_iff_iff,beq_iff_eq,decide_eq_true_iff];omega
   have i2:((sz:Int) % 3 == 0)=decide (sz % 3=0):=by rw[Bool.eq_iff_iff,beq_iff_eq,decide_eq_true_iff];omega
   have i3:(((oz:Int)+(sz:Int)) % 3 == 0)=decide ((oz+sz) % 3=0):=by rw[Bool.eq_iff_iff,beq_iff_eq,decide_eq_true_iff];omega
   simp only[e1,e2,e3] at i1 i2 i3
   have e1H:=hid e1
   have e2H:=hid e2
   have e3H:=hid e3
   clear e1 e2 e3
   go_enter Tryz.func243,Tryz.ntmps243
   go_wp2
   go_ret
   exact ⟨zaw (by have e1:=e1H.out;have e2:=e2H.out;have e3:=e3H.out;simp[S.fits,e1,e2,e3] <;> omega),hb1.out _ _⟩)))
end Go.Proofs.YtlojgpkajkedeaaGreatDoor
