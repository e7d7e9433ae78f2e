import Derived.Test.YtlojgpkajkedeaaGreatDoorMTH
import Derived.Test.YtlojgpkajkedeaaGreatDoorMTQ
import Derived.Test.YtlojgpkajkedeaaGreatDoorMTT
namespace Go.Proofs.YtlojgpkajkedeaaGreatDoor
open Go.RowKit
def firT:List UInt8:=[35,32,97,32,42,98,42]
def firN:List Nd:=[⟨0,2,1,⟨#[]⟩,⟨#[]⟩⟩,⟨1,8,0,⟨#[]⟩,⟨#[97,32]⟩⟩,⟨1,14,0,⟨#[]⟩,⟨#[]⟩⟩,⟨2,8,0,⟨#[]⟩,⟨#[98]⟩⟩]
theorem zzk:(S.za2 (firT.length+1) (S.lines firT)).1=[.mk 2 1 [] [97,32,42,98,42] false []]:=by kernel_rfl
theorem zvv:zem firT=firN:=by
 unfold zem
 rw[zzk]
 simp only[zcg,zls,zh0]
 rw[zxb [97,32,42,98,42] 10 (by kernel_rfl)]
 kernel_rfl
set_option maxRecDepth 100000 in
set_option maxHeartbeats 4000000 in
theorem zti (w:World) (henv:Env w) :
  Calls Tryz.prog 23 #[] w fun e w'=>e = .returned (.bool true)∧Below w.heap.size w w':=by
 have hT:=hid (zsv ⟨#[35,32,97,32,42,98,42]⟩ w (by decide) henv)
 rw[show zem (⟨#[35,32,97,32,42,98,42]⟩:ByteArray).data.toList=firN from zvv,show firN.length=4 from rfl] at hT
 clear henv
 go_enter Tryz.func23,Tryz.ntmps23
 go_wp2_with fail
 refine hT.out.mono ?_
 rintro e w1 ⟨B1,a1,cp1,rfl,hB1,hown1,hb1⟩
 obtain ⟨W,hW⟩:∃ W,W=w1.alloc (.cells (zao firN).toArray 36):=⟨_,rfl⟩
 have hbW:Below w1.heap.size w1 W:=by rw[hW];exact (Below.refl _ _).alloc (Nat.le_refl _) _
 have hlW:zba w1.heap.size (some ⟨w1.heap.size,0,none⟩) 4 firN W:=by rw[hW];exact zqt w1 firN 4 rfl (by decide)
 have hSm:=zge B1 w1.heap.size a1 (some ⟨w1.heap.size,0,none⟩) cp1 4 firN W (hown1.below hbW) hlW (by decide)
 rw[show firN.length=4 from rfl] at hSm
 have hSmH:=hid hSm
 have hWH:Hid (W=w1.alloc (.cells #[.int .i64 0,.int .i64 2,.int .i64 1,.string ⟨#[]⟩,.string ⟨#[]⟩,.int .i64 1,.int .i64 8,.int .i64 0,.string ⟨#[]⟩,.string ⟨#[97,32]⟩,.int .i64 1,.int .i64 14,.int .i64 0,.string ⟨#[]⟩,.string ⟨#[]⟩,.int .i64 2,.int .i64 8,.int .i64 0,.string ⟨#[]⟩,.string ⟨#[98]⟩] 36)):=hid hW
 have hz1:w.heap.size≤w1.heap.size:=hb1.size
 have hbWw:Hid (Below w.heap.size w W):=hid (hb1.trans (hbW.mono hz1))
 have hzW:w.heap.size≤W.heap.size:=hbWw.out.size
 clear hW hbW hlW hown1 hb1 hSm
 go_wp2_with fail
 rw[← hWH.out]
 refine hSmH.out.mono ?_
 rintro e w3 ⟨rfl,hb3⟩
 have hb3H:Hid (Below w.heap.size w w3):=hid (hbWw.out.trans (hb3.mono hzW))
 clear hb3
 go_wp2
 go_ret
 exact ⟨rfl,hb3H.out⟩
set_option maxRecDepth 100000 in
set_option maxHeartbeats 4000000 in
theorem zqk (D mb:Nat) (na:Option Addr) (nn nc:Nat) (bs:List Value) (tv:Value) (s:ByteArray) (w:World) (henv:Env w) (hDm:D≤mb) (hm:w.heap[mb]?=some (.cells #[.slice na nn nc,tv] 42 (0,0))) (hbook:w.ownsRow D 22 1 (.slice na nn nc) nn bs) (hnn:nn≤1000000) (hs3:(Value.slice na nn nc).ownBlock≠some mb) :
  Calls Tryz.prog 24 #[.pointer (some ⟨mb,0,none⟩),.string s] w fun e w'=>e = .returned (.bool true)∧Below D w w':=by
 have hmlt:mb<w.heap.size:=(Array.getElem?_eq_some_iff.1 hm).1
 have hkeep:Hid (∀ wx,Below w.heap.size w wx→wx.heap[mb]?=some (.cells #[.slice na nn nc,tv] 42 (0,0))∧wx.ownsRow D 22 1 (.slice na nn nc) nn bs):=hid (fun wx hb=>by
  refine ⟨(hb.block mb hmlt).trans hm,World.ownsRow.kept hbook (below_grown hb) ?_⟩
  cases h:(Value.slice na nn nc).ownBlock with
  | none=>exact .inl rfl
  | some g=>exact .inr (by simp))
 have hblt:=hid (hbook.lt)
 have hs3H:=hid hs3
 clear hm hbook hs3
 by_cases hs:s.size≤1500
 ·have hT:=hid (zsv s w hs henv)
  obtain ⟨N,hN⟩:∃ N,zem s.data.toList=N:=⟨_,rfl⟩
  have hNl:N.length≤900000:=by have:=zmc s.data.toList;rw[hN,S.length_data] at this;omega
  rw[hN] at hT
  have hNH:=hid hN
  clear hN henv
  go_enter Tryz.func24,Tryz.ntmps24
  go_wp2_with fail
  refine hT.out.mono ?_
  rintro e w1 ⟨B1,a1,cp1,rfl,hB1,hown1,hb1⟩
  have hR:=hid (zwi s w1 hs)
  have hown1H:=hid hown1
  have hb1H:=hid hb1
  have hz1:w.heap.size≤w1.heap.size:=hb1.size
  clear hown1 hb1
  go_wp2_with fail
  refine hR.out.mono ?_
  rintro e w2 ⟨B2,a2,cp2,ns,rfl,hU⟩
  have hz2:w1.heap.size≤w2.heap.size:=hU.out.2.2.1.size
  have hsame:zbv 0 ns=N:=by
   rw[← hNH.out]
   exact ztx s.data.toList ns (by rw[S.length_data];exact hU.out.2.2.2)
  have hb2:Below w1.heap.size w1 w2:=hU.out.2.2.1
  have hU2:zba B2 a2 cp2 N w2:=by rw[← hsame];exact hU.out.2.1
  rw[hsame]
  have hS:=hid (zge B1 B2 a1 a2 cp1 cp2 N w2 (hown1H.out.below hb2) hU2 (by omega))
  have hb2H:Hid (Below w.heap.size w w2):=hid (hb1H.out.trans (hb2.mono hz1))
  have hown2H:Hid (zba B1 a1 cp1 N w2):=hid (hown1H.out.below hb2)
  clear hsame hb2 hU hU2
  go_wp2_with fail
  refine hS.out.mono ?_
  rintro e w3 ⟨rfl,hb3⟩
  have hz3:w2.heap.size≤w3.heap.size:=hb3.size
  have hb3H:Hid (Below w.heap.size w w3):=hid (hb2H.out.trans (hb3.mono (by omega)))
  have hK:=hkeep.out w3 hb3H.out
  have hown3:=hown2H.out.below hb3
  have hBw:B1≤w3.heap.size∨a1=none:=by
   rcases hown3.2 with ⟨h1,_⟩|⟨g,cap,cur,h1,h2,h3,_⟩
   ·injection h1 with e1;exact .inr e1
   ·exact .inl (by have:=(Array.getElem?_eq_some_iff.1 h3).1;omega)
  have hMk:Hid (Calls Tryz.prog 50 #[.pointer (some ⟨mb,0,none⟩),.slice a1 N.length cp1] w3 fun e w'=>e = .returned (.tuple #[])∧Below D w3 w'):=hid (by
   have hown4:zba w.heap.size a1 cp1 N w3:=by
    refine ⟨hown3.1,?_⟩
    rcases hown3.2 with h|⟨g,cap,cur,h1,h2,h3⟩
    ·exact .inl h
    ·exact .inr ⟨g,cap,cur,h1,by omega,h3⟩
   exact zle D mb w.heap.size a1 cp1 N na nn nc bs tv w3 hDm (by omega) (by omega) hK.1 hK.2 hnn hown4 hNl (fun e=>by have:=hown4.lt mb e;omega) (fun g hg e=>by have:=hown4.lt g hg;have:=hblt.out g e;omega) hs3H.out)
  clear hK hown3 hb3 hBw
  go_wp2_with fail
  refine hMk.out.mono ?_
  rintro e w4 ⟨rfl,hb4⟩
  have hb4H:Hid (Below D w w4):=hid ((hb3H.out.mono (by omega)).trans hb4)
  have hN4:=hid (zn5 0 w4)
  clear hb4
  go_wp2_with fail
  refine hN4.out.mono ?_
  rintro e w5 ⟨rfl,rfl⟩
  go_wp2_with fail
  refine hN4.out.mono ?_
  rintro e w5 ⟨rfl,rfl⟩
  go_wp2
  go_ret
  exact ⟨rfl,hb4H.out⟩
 ·have hT:=hid (zx4 s w (by omega))
  have hR:=hid (ztb s w (by omega))
  have hS:=hid (zge 0 0 none none 0 0 [] w (zba.nil _ _) (zba.nil _ _) (by simp))
  rw[List.length_nil] at hS
  clear henv
  go_enter Tryz.func24,Tryz.ntmps24
  go_wp2_with fail
  refine hT.out.mono ?_
  rintro e w1 ⟨rfl,rfl⟩
  go_wp2_with fail
  refine hR.out.mono ?_
  rintro e w2 ⟨rfl,rfl⟩
  go_wp2_with fail
  refine hS.out.mono ?_
  rintro e w3 ⟨rfl,hb3⟩
  have hz3:w.heap.size≤w3.heap.size:=hb3.size
  have hb3H:Hid (Below w.heap.size w w3):=hid hb3
  have hK:=hkeep.out w3 hb3
  have hMk:=zle D mb w3.heap.size none 0 [] na nn nc bs tv w3 hDm (by omega) (Nat.le_refl _) hK.1 hK.2 hnn (zba.nil _ _) (by simp) (by simp[Value.ownBlock]) (fun g hg=>by simp[Value.ownBlock] at hg) hs3H.out
  rw[List.length_nil] at hMk
  have hMkH:=hid hMk
  clear hK hb3 hMk
  go_wp2_with fail
  refine hMkH.out.mono ?_
  rintro e w4 ⟨rfl,hb4⟩
  have hb4H:Hid (Below D w w4):=hid ((hb3H.out.mono (by omega)).trans hb4)
  have hN4:=hid (zn5 1 w4)
  clear hb4
  go_wp2_with fail
  refine hN4.out.mono ?_
  rintro e w5 ⟨rfl,rfl⟩
  go_wp2_with fail
  refine hN4.out.mono ?_
  rintro e w5 ⟨rfl,rfl⟩
  go_wp2
  go_ret
  exact ⟨rfl,hb4H.out⟩
set_option maxRecDepth 100000 in
set_option maxHeartbeats 4000000 in
theorem zp9 (s:ByteArray) (w:World) (henv:Env w) :
  Calls Tryz.prog 5 #[.string s] w fun e w'=>e = .returned (.bool true)∧Below w.heap.size w w':=by
 obtain ⟨W,hW⟩:∃ W,W=w.alloc (.cells #[.slice none 0 0,.slice none 0 0] 42):=⟨_,rfl⟩
 have hbW:Below w.heap.size w W:=by rw[hW];exact (Below.refl _ _).alloc (Nat.le_refl _) _
 have hsW:W.heap.size=w.heap.size+1:=by rw[hW];simp
 have hxW:W.heap[w.heap.size]?=some (.cells #[.slice none 0 0,.slice none 0 0] 42 (0,0)):=by rw[hW];exact za1 _ _
 have hF:=hid (zti W (henv.below hbW))
 have hWH:=hid hW
 have hbWH:=hid hbW
 have hsWH:=hid hsW
 have hxWH:=hid hxW
 have henvH:=hid henv
 clear hW hbW hsW hxW henv
 go_enter Tryz.func5,Tryz.ntmps5
 go_wp2_with fail
 rw[← hWH.out]
 refine hF.out.mono ?_
 rintro e w1 ⟨rfl,hb1⟩
 have hz1:W.heap.size≤w1.heap.size:=hb1.size
 have hb1H:Hid (Below w.heap.size w w1):=hid (hbWH.out.trans (hb1.mono (by have:=hsWH.out;omega)))
 have hx1:w1.heap[w.heap.size]?=some (.cells #[.slice none 0 0,.slice none 0 0] 42 (0,0)):=(hb1.block w.heap.size (by have:=hsWH.out;omega)).trans hxWH.out
 have hT:=hid (zqk w.heap.size w.heap.size none 0 0 [] (.slice none 0 0) s w1 (henvH.out.below hb1H.out) (Nat.le_refl _) hx1 (World.ownsRow_nil _ _ _ _) (by omega) (by simp[Value.ownBlock]))
 clear hb1 hx1
 go_wp2_with fail
 refine hT.out.mono ?_
 rintro e w2 ⟨rfl,hb2⟩
 have hb2H:Hid (Below w.heap.size w w2):=hid (hb1H.out.trans hb2)
 clear hb2
 go_wp2
 go_ret
 exact ⟨rfl,hb2H.out⟩
end Go.Proofs.YtlojgpkajkedeaaGreatDoor
