import Derived.Test.YtlojgpkajkedeaaGreatDoorMD3
import Derived.Test.YtlojgpkajkedeaaGreatDoorMW10
import Derived.Test.YtlojgpkajkedeaaGreatDoorME5
namespace Go.Proofs.YtlojgpkajkedeaaGreatDoor
open Go.RowKit
def opens (s p:Pt):Bool:=p.ro && (!p.text.isEmpty && (decide (p.text.head?=s.text.head?) && S.fits p.rs p.rc s.rs s.ro))
theorem zz2 (t:List UInt8) (h:0<(S.B t).size):t.head?=some (S.B t)[0]:=by
 have:=S.zaf (S.B t) 0 h
 rw[S.zcn] at this
 rw[List.head?_eq_getElem?];exact this
structure Bk (wr:World) where
 w:World
 h:Below wr.heap.size wr w
theorem zav {P:Program} {id:Nat} {Q:Exit→Act→World→Prop} {a:Act} {w:World} {l:List Oper} (hm:P.follows .mixedOrders=true) (hB:Region.lexB .any l.toArray=true)
  (h:wpQuiet P l.toArray (fun w'=>∃ k:Bk w,w'=k.w) (fun a'=>∀ w',(∃ k:Bk w,w'=k.w)→Q .normal a' w') l a):(Code.region id l.toArray true).wp P Q a w:=
 wp_region_quiet (C:=fun w'=>∃ k:Bk w,w'=k.w) hm hB ⟨⟨w.drew,(Below.refl _ _).drew⟩,rfl⟩ (by simpa using h)
set_option maxRecDepth 100000 in
set_option maxHeartbeats 16000000 in
theorem zpb (L R:List Mem) (s:Mem) (w:World) (h:Seg w none (L++s::R) none) (hst:s.p.text≠[]) (hrs:∀ x∈L++s::R,x.p.rs≤1000000) :
  Calls Tryz.prog 207 #[.pointer (some ⟨s.m,0,none⟩)] w fun e w'=>∃ r,e = .returned (.pointer r)∧Below w.heap.size w w'∧Hid ((r=none∧∀ x∈L,opens s.p x.p=false)∨∃ L1 x M,L=L1++x::M∧r=some x.ad∧opens s.p x.p=true∧∀ y∈M,opens s.p y.p=false):=by
 have hlt:∀ x∈L++s::R,x.m<w.heap.size:=fun x hx=>h.lt x hx
 have hseg:=(seg_append _ _ _ _ _).1 h
 have hS:=hseg.2.cells
 have hAh:=hid (zq5 s.m (lst L none) w (za0 hS 8 _ rfl))
 have hSH:=hid hS
 have hsegH:=hid hseg.1
 have hltH:=hid hlt
 have hrsH:=hid hrs
 have hsl:s.m<w.heap.size:=hlt s (by simp)
 have hstp:0<(S.B s.p.text).size:=by rw[S.zbc];exact List.length_pos_iff.2 hst
 have hhs:=zz2 s.p.text hstp
 have hhsH:=hid hhs
 have hsrs:s.p.rs≤1000000:=hrs s (by simp)
 clear h hlt hseg hS hst hrs hhs
 go_enter Tryz.func207,Tryz.ntmps207
 go_wp2_with fail
 refine hAh.out.mono ?_
 rintro e w' ⟨rfl,rfl⟩
 go_wp2
 go_loopg [3] L.length (fun k s3 wr=>∃ A M,L=A++M∧k=A.length∧s3 = .pointer (lst A none)∧(∀ x∈M,opens s.p x.p=false)∧Below w.heap.size w wr)
 case atStart=>exact ⟨L,[],by simp,rfl,rfl,by simp,Below.refl _ _⟩
 case round=>
  obtain ⟨A,M,hLA,rfl,rfl,hM,hb⟩:=hrel
  have hbH:=hid hb
  have hMH:=hid hM
  have hLAH:=hid hLA
  have hzb:w.heap.size≤wr.heap.size:=hb.size
  by_cases hA:A=[]
  ·subst hA
   clear hb hM hLA
   rw[show lst ([]:List Mem) none=none from rfl]
   go_wp2
   go_ret
   exact ⟨none,rfl,hbH.out,hid (.inl ⟨rfl,by rw[hLAH.out];exact hMH.out⟩)⟩
  ·obtain ⟨A0,x,rfl⟩:=zlv A hA
   have hxin:x∈L:=by rw[hLA];simp
   have hxl:x.m<w.heap.size:=hltH.out x (List.mem_append_left _ hxin)
   have hX:w.heap[x.m]?=some (.cells (zd2 x (lst A0 none) (hd M (some s.ad))).toArray 179 (0,0)):=by
    have h1:=hsegH.out
    rw[hLA,seg_append,seg_append] at h1
    exact h1.1.2.cells
   have hXr:=(hb.block x.m hxl).trans hX
   have hSr:=(hb.block s.m hsl).trans hSH.out
   have x2:wr.cell? ⟨x.m,2,none⟩=some (.string (S.B x.p.text)):=za0 hXr 2 _ rfl
   have x5:wr.cell? ⟨x.m,5,none⟩=some (.int .i64 (x.p.rs:Nat)):=za0 hXr 5 _ rfl
   have x6:wr.cell? ⟨x.m,6,none⟩=some (.bool x.p.ro):=za0 hXr 6 _ rfl
   have x7:wr.cell? ⟨x.m,7,none⟩=some (.bool x.p.rc):=za0 hXr 7 _ rfl
   have s2:wr.cell? ⟨s.m,2,none⟩=some (.string (S.B s.p.text)):=za0 hSr 2 _ rfl
   have s5:wr.cell? ⟨s.m,5,none⟩=some (.int .i64 (s.p.rs:Nat)):=za0 hSr 5 _ rfl
   have s6:wr.cell? ⟨s.m,6,none⟩=some (.bool s.p.ro):=za0 hSr 6 _ rfl
   have s7:wr.cell? ⟨s.m,7,none⟩=some (.bool s.p.rc):=za0 hSr 7 _ rfl
   have hAx:=hid (fun (wx:World) (hx:Below w.heap.size w wx)=>zq5 x.m (lst A0 none) wx (za0 ((hx.block x.m hxl).trans hX) 8 _ rfl))
   have hxrs:x.p.rs≤1000000:=hrsH.out x (List.mem_append_left _ hxin)
   have hfit:=hid (fun (wx:World)=>z0b x.p.rs s.p.rs x.p.ro x.p.rc s.p.ro s.p.rc wx hxrs hsrs)
   have hno:Hid (opens s.p x.p=false→∀ y∈x::M,opens s.p y.p=false):=hid (fun h1 y hy=>by
    rcases List.mem_cons.1 hy with rfl|hy
    ·exact h1
    ·exact hMH.out y hy)
   have hLA2:Hid (L=A0++x::M):=hid (by rw[hLAH.out];simp)
   rw[zcl,show (some x.ad:Option Addr)=some (⟨x.m,0,none⟩:Addr) from rfl]
   clear hb hM hLA hX hXr hSr hA hxin
   cases hro:x.p.ro
   ·have hop:Hid (opens s.p x.p=false):=hid (by unfold opens;rw[hro];rfl)
    rw[hro] at x6
    clear hro
    go_wp2_with fail
    go_quiet (fail)
    go_wp2_with fail
    refine (hAx.out _ (below_drewN hbH.out _)).mono ?_
    rintro e1 w' ⟨rfl,rfl⟩
    go_wp2
    go_roundg A0.length
    case rel=>exact ⟨A0,x::M,hLA2.out,rfl,rfl,hno.out hop.out,below_drewN hbH.out _⟩
    case measure=>simp
   ·rw[hro] at x6 hfit
    by_cases hte:x.p.text=[]
    ·have hop:Hid (opens s.p x.p=false):=hid (by unfold opens;rw[hte];simp)
     rw[hte] at x2
     have x2':wr.cell? ⟨x.m,2,none⟩=some (.string ⟨#[]⟩):=x2
     clear hro x2 hte
     go_wp2_with fail
     go_quiet (fail)
     go_wp2_with fail
     refine (hAx.out _ (below_drewN hbH.out _)).mono ?_
     rintro e1 w' ⟨rfl,rfl⟩
     go_wp2
     go_roundg A0.length
     case rel=>exact ⟨A0,x::M,hLA2.out,rfl,rfl,hno.out hop.out,below_drewN hbH.out _⟩
     case measure=>simp
    ·have hxp:0<(S.B x.p.text).size:=by rw[S.zbc];exact List.length_pos_iff.2 hte
     have hhx:=zz2 x.p.text hxp
     have htn:=S.zbl _ hxp
     have hte':=S.zb2 _ hxp
     have hopE:Hid (opens s.p x.p=(decide ((S.B x.p.text)[0]=(S.B s.p.text)[0]) && S.fits x.p.rs x.p.rc s.p.rs s.p.ro)):=hid (by
      unfold opens;rw[hro,hhx,hhsH.out]
      have:x.p.text.isEmpty=false:=by simpa using hte
      rw[this];simp)
     clear hte hhx
     by_cases heq:(S.B x.p.text)[0]=(S.B s.p.text)[0]
     ·have hnb:((((S.B x.p.text)[0].toNat:Nat):Int) == (((S.B s.p.text)[0].toNat:Nat):Int))=true:=by
       rw[heq,beq_iff_eq]
      haveI hNE:Nonempty (Bk wr):=⟨⟨wr,Below.refl _ _⟩⟩
      have X2:∀ k:Bk wr,k.w.cell? ⟨x.m,2,none⟩=some (.string (S.B x.p.text)):=fun k=>(k.h.cell (p:=⟨x.m,2,none⟩) (by show x.m<_;omega)).trans x2
      have X5:∀ k:Bk wr,k.w.cell? ⟨x.m,5,none⟩=some (.int .i64 (x.p.rs:Nat)):=fun k=>(k.h.cell (p:=⟨x.m,5,none⟩) (by show x.m<_;omega)).trans x5
      have X6:∀ k:Bk wr,k.w.cell? ⟨x.m,6,none⟩=some (.bool true):=fun k=>(k.h.cell (p:=⟨x.m,6,none⟩) (by show x.m<_;omega)).trans x6
      have X7:∀ k:Bk wr,k.w.cell? ⟨x.m,7,none⟩=some (.bool x.p.rc):=fun k=>(k.h.cell (p:=⟨x.m,7,none⟩) (by show x.m<_;omega)).trans x7
      have S2:∀ k:Bk wr,k.w.cell? ⟨s.m,2,none⟩=some (.string (S.B s.p.text)):=fun k=>(k.h.cell (p:=⟨s.m,2,none⟩) (by show s.m<_;omega)).trans s2
      have S5:∀ k:Bk wr,k.w.cell? ⟨s.m,5,none⟩=some (.int .i64 (s.p.rs:Nat)):=fun k=>(k.h.cell (p:=⟨s.m,5,none⟩) (by show s.m<_;omega)).trans s5
      have S6:∀ k:Bk wr,k.w.cell? ⟨s.m,6,none⟩=some (.bool s.p.ro):=fun k=>(k.h.cell (p:=⟨s.m,6,none⟩) (by show s.m<_;omega)).trans s6
      have S7:∀ k:Bk wr,k.w.cell? ⟨s.m,7,none⟩=some (.bool s.p.rc):=fun k=>(k.h.cell (p:=⟨s.m,7,none⟩) (by show s.m<_;omega)).trans s7
      cases hfv:S.fits x.p.rs x.p.rc s.p.rs s.p.ro
      ·have hop:Hid (opens s.p x.p=false):=hid (by rw[hopE.out,hfv,Bool.and_false])
       rw[hfv] at hfit
       clear heq hro hfv
       go_wp2_with fail
       refine zav (by kernel_rfl) (by kernel_rfl) ?_
       repeat (go_big_quiet_step ((rename_i kk;exact (hfit.out kk.w).mono (fun e w' h=>⟨h.1,⟨w',kk.h.trans (h.2.mono kk.h.size)⟩,rfl⟩))))
       refine wpQuiet_nil ?_
       intro _ hw'
       obtain ⟨kq,hw''⟩:=hw'
       subst hw''
       go_wp2_with fail
       refine (hAx.out _ (hbH.out.trans (kq.h.mono hzb))).mono ?_
       rintro e1 w' ⟨rfl,rfl⟩
       go_wp2
       go_roundg A0.length
       case rel=>exact ⟨A0,x::M,hLA2.out,rfl,rfl,hno.out hop.out,hbH.out.trans (kq.h.mono hzb)⟩
       case measure=>simp
      ·have hop:Hid (opens s.p x.p=true):=hid (by rw[hopE.out,hfv,decide_eq_true heq];rfl)
       rw[hfv] at hfit
       clear heq hro hfv
       go_wp2_with fail
       refine zav (by kernel_rfl) (by kernel_rfl) ?_
       repeat (go_big_quiet_step ((rename_i kk;exact (hfit.out kk.w).mono (fun e w' h=>⟨h.1,⟨w',kk.h.trans (h.2.mono kk.h.size)⟩,rfl⟩))))
       refine wpQuiet_nil ?_
       intro _ hw'
       obtain ⟨kq,hw''⟩:=hw'
       subst hw''
       go_wp2
       go_ret
       exact ⟨some x.ad,rfl,hbH.out.trans (kq.h.mono hzb),hid (.inr ⟨A0,x,M,hLA2.out,rfl,hop.out,hMH.out⟩)⟩
     ·have hop:Hid (opens s.p x.p=false):=hid (by rw[hopE.out,decide_eq_false heq];rfl)
      have hnb:((((S.B x.p.text)[0].toNat:Nat):Int) == (((S.B s.p.text)[0].toNat:Nat):Int))=false:=by
       rw[beq_eq_false_iff_ne];intro e;exact heq (UInt8.toNat_inj.1 (by omega))
      clear heq hro
      go_wp2_with fail
      go_quiet (fail)
      go_wp2_with fail
      refine (hAx.out _ (below_drewN hbH.out _)).mono ?_
      rintro e1 w' ⟨rfl,rfl⟩
      go_wp2
      go_roundg A0.length
      case rel=>exact ⟨A0,x::M,hLA2.out,rfl,rfl,hno.out hop.out,below_drewN hbH.out _⟩
      case measure=>simp
end Go.Proofs.YtlojgpkajkedeaaGreatDoor
