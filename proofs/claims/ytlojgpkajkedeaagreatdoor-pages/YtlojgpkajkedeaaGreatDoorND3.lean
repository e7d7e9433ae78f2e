import Derived.Test.YtlojgpkajkedeaaGreatDoorND1
import Derived.Deep.RegionHeld3
set_option maxHeartbeats 16000000
set_option maxRecDepth 100000
namespace Go.Proofs.YtlojgpkajkedeaaGreatDoor
open Go.RowKit Go.Proofs.Tryz
namespace S
def addrOf (l:List UInt8):List UInt8:=(l.drop 1).take (zb5 [40,41,60,62] (l.drop 1))
def zd5 (l:List UInt8):Bool:=Lib.hasPrefix l [40]&&Lib.hasPrefix (l.drop (1+zb5 [40,41,60,62] (l.drop 1))) [41]
def colon (l:List UInt8):Nat:=1+letters (l.drop 1)
def zdf (l:List UInt8):Nat:=colon l+zb5 [60,62] (l.drop (colon l))
def zo5 (l:List UInt8):Bool:=decide (letters (l.drop 1)<2)||decide (8<letters (l.drop 1))||!Lib.hasPrefix (l.drop (colon l)) [58]
def zdb (l:List UInt8):Bool:=!zo5 l&&Lib.hasPrefix (l.drop (zdf l)) [62]
def zck (l:List UInt8):List UInt8:=(l.drop 1).take (zdf l-1)
def zbv (size:Nat):Nat->List UInt8->Nat->Option Nat
 | 0,_,_=>none
 | _+1,[],_=>none
 | f+1,b::r,k=>if b=96 then (if cnt 96 (b::r)=size then some k else zbv size f ((b::r).drop (cnt 96 (b::r))) (k+cnt 96 (b::r))) else zbv size f r (k+1)
def ze9 (l:List UInt8)(size:Nat):Option Nat:=zbv size (l.length+1) (l.drop size) size
end S
theorem zyb (s:ByteArray)(k n:Nat)(w:World)(hs:s.size<=1000000)(hk:k<s.size)(hn:k+n<=s.size):Calls prog 202 #[.string s,.int .i64 (k:Nat),.int .i64 (n:Nat)] w λe w'=>e=.returned (.agg #[.int .i64 (n:Nat),.bool (S.zc0 s.data.toList k n),.bool (S.zbg s.data.toList k n)])/\Below w.heap.size w w':=by
 have hg:=S.zad s k hk;obtain⟨p,hp⟩:=Qyy (S.side s.data.toList ((k:Int)-1));obtain⟨q,hq⟩:=Qyy (S.side s.data.toList ((k+n:Nat):Int));have hpr:p=0\/p=1\/p=2:=hp▸S.zhg _ _;have hqr:q=0\/q=1\/q=2:=hq▸S.zhg _ _;have hA:Hid (∀wx,Calls prog 234 #[.string s,.int .i64 ((k:Int)-1)] wx λe w'=>e=.returned (.int .i64 p)/\wx=w'):=hid (λwx=>by have:=znx s ((k:Int)-1) wx (by omega) (by omega);rw[hp] at this;exact this);have hB:Hid (∀wx,Calls prog 234 #[.string s,.int .i64 ((k:Int)+(n:Int))] wx λe w'=>e=.returned (.int .i64 q)/\wx=w'):=hid (λwx=>by have:=znx s ((k+n:Nat):Int) wx (by omega) (by omega);rw[hq] at this;exact this);have hL1:=hid (λwx=>zmh q p wx hqr hpr);have hL2:=hid (λwx=>zmh p q wx hpr hqr);obtain⟨rt,hrt⟩:=Qyy (S.leans q p);obtain⟨lf,hlf⟩:=Qyy (S.leans p q);rw[hrt] at hL1;rw[hlf] at hL2;have hb1:Hid (∀o,Below w.heap.size w (w.alloc o)):=hid (λo=>(Below.refl _ _).alloc (Qc _) o);by_cases hx:s[k]=42
 ·have hxn:s[k].toNat=42:=by rw[hx];rfl
  have hO:Hid (S.zc0 s.data.toList k n=rt):=hid (by unfold S.zc0;rw[hg,hx,if_pos rfl,hp,hq,hrt]);have hC:Hid (S.zbg s.data.toList k n=lf):=hid (by unfold S.zbg;rw[hg,hx,if_pos rfl,hp,hq,hlf]);rw[hO.out,hC.out];clear hx hg hp hq hpr hqr hrt hlf hO hC;go_enter func202,ntmps202;go_wp2_with fail
  refine(hA.out _).mono ?_;rintro e w'⟨rfl,rfl⟩;go_wp2_with fail
  refine(hB.out _).mono ?_;rintro e w'⟨rfl,rfl⟩;go_wp2_with fail
  refine(hL1.out _).mono ?_;rintro e w'⟨rfl,rfl⟩;go_wp2_with fail
  refine(hL2.out _).mono ?_;rintro e w'⟨rfl,rfl⟩;go_wp2;exact bodyPost_ret (v:=.agg #[.int .i64 (n:Nat),.bool rt,.bool lf]) (by simp[results,results202,go_sem]) rfl ⟨rfl,hb1.out _⟩
 ·have hxb:(((s[k].toNat:Nat):Int) == 42)=false:=by
   rw[Qe];intro e;exact hx (Qk.1 (by show s[k].toNat=42;omega))
  have hO:Hid (S.zc0 s.data.toList k n=(rt&&(!lf||decide (p=1)))):=hid (by unfold S.zc0;rw[hg,if_neg (by simpa using hx),hp,hq,hrt,hlf]);have hC:Hid (S.zbg s.data.toList k n=(lf&&(!rt||decide (q=1)))):=hid (by unfold S.zbg;rw[hg,if_neg (by simpa using hx),hp,hq,hrt,hlf]);rw[hO.out,hC.out];clear hx hg hp hq hrt hlf hO hC;have hp1:(p == 1)=decide (p=1):=by rw[Bool.eq_iff_iff,beq_iff_eq,decide_eq_true_iff]
  have hq1:(q == 1)=decide (q=1):=by rw[Bool.eq_iff_iff,beq_iff_eq,decide_eq_true_iff]
  generalize decide (p=1)=bp at *;generalize decide (q=1)=bq at *;clear hpr hqr;cases rt<;>cases lf<;>cases bp<;>cases bq <;>
  ·go_enter func202,ntmps202;go_wp2_with (fail);refine(hA.out _).mono ?_;rintro e w'⟨rfl,rfl⟩;go_wp2_with (fail);refine(hB.out _).mono ?_;rintro e w'⟨rfl,rfl⟩;go_wp2_with (fail);refine(hL1.out _).mono ?_;rintro e w'⟨rfl,rfl⟩;go_wp2_with (fail);refine(hL2.out _).mono ?_;rintro e w'⟨rfl,rfl⟩;go_wp2;exact bodyPost_ret (v:=.agg #[.int .i64 (n:Nat),.bool _,.bool _]) (by simp[results,results202,go_sem]<;>exact⟨rfl,rfl⟩) rfl ⟨rfl,hb1.out _⟩
theorem z2d (oz sz:Nat)(oo oc so sc:Bool)(w:World)(h1:oz<=1000000)(h2:sz<=1000000):Calls prog 243 #[.agg #[.int .i64 (oz:Nat),.bool oo,.bool oc],.agg #[.int .i64 (sz:Nat),.bool so,.bool sc]] w λe w'=>e=.returned (.bool (S.fits oz oc sz so))/\Below w.heap.size w w':=by
 have hb1:Hid (∀o1 o2,Below w.heap.size w ((w.alloc o1).alloc o2)):=hid (λo1 o2=>((Below.refl _ _).alloc (Qc _) o1).alloc (by simp) o2);cases oc<;>cases so
 ·go_enter func243,ntmps243;go_wp2;go_ret;exact⟨rfl,hb1.out _ _⟩
 all_goals (
  by_cases e1:oz % 3=0<;>by_cases e2:sz % 3=0<;>by_cases e3:(oz+sz) % 3=0
  all_goals (first|omega|(
   have i1:((oz:Int) % 3 == 0)=decide (oz % 3=0):=by rw[Bool.eq_iff_iff,beq_iff_eq,decide_eq_true_iff];omega
   have i2:((sz:Int) % 3 == 0)=decide (sz % 3=0):=by rw[Bool.eq_iff_iff,beq_iff_eq,decide_eq_true_iff];omega
   have i3:(((oz:Int)+(sz:Int)) % 3 == 0)=decide ((oz+sz) % 3=0):=by rw[Bool.eq_iff_iff,beq_iff_eq,decide_eq_true_iff];omega
   simp only[e1,e2,e3] at i1 i2 i3;have dw:=hid e1;have dh:=hid e2;have bg:=hid e3;clear e1 e2 e3;go_enter func243,ntmps243;go_wp2;go_ret;exact⟨zb1 (by have e1:=dw.out;have e2:=dh.out;have e3:=bg.out;simp[S.fits,e1,e2,e3]<;>omega),hb1.out _ _⟩)))
end Go.Proofs.YtlojgpkajkedeaaGreatDoor
