import Derived.Test.YtlojgpkajkedeaaGreatDoorMW7
import Derived.Test.YtlojgpkajkedeaaGreatDoorMRB
namespace Go.Proofs.YtlojgpkajkedeaaGreatDoor
open Go.RowKit
def zz8 (l:List UInt8) (k n:Int) (b:Bool) (mg:Int):Prop:=(S.item l).ok=true→k=((S.item l).kind.toNat:Int)∧n=(S.item l).number∧b=(S.item l).empty∧mg=((S.item l).zaa:Int)
def zvq (l:List UInt8) (w:World) (e:Ending) (w':World):Prop:=∃ (k n:Int) (b:Bool) (mg:Int),e = .returned (.tuple #[.agg #[.int .u8 k,.int .i64 n,.bool b,.int .i64 mg],.bool (S.item l).ok])∧Hid (zz8 l k n b mg)∧Below w.heap.size w w'
def MkIn (w:World) (N:Nat) (k num:Int) (b:Bool) (mg:Int) (wx:World):Prop:=w.heap.size<N∧wx.heap[w.heap.size]?=some (.cells #[.int .u8 0,.int .i64 0,.bool false,.int .i64 0] 150 (0,0))∧wx.heap[N]?=some (.cells #[.int .u8 k,.int .i64 num,.bool b,.int .i64 mg] 150 (0,0))∧Below w.heap.size w wx
theorem MkIn.drew {w:World} {N:Nat} {k num:Int} {b:Bool} {mg:Int} {wx:World} (h:MkIn w N k num b mg wx):MkIn w N k num b mg wx.drew:=⟨h.1,h.2.1,h.2.2.1,h.2.2.2.drew⟩
theorem MkIn.kind {w:World} {N:Nat} {k num:Int} {b:Bool} {mg:Int} {wx:World} (h:MkIn w N k num b mg wx) (k':Int):MkIn w N k' num b mg (wx.setCell ⟨N,0,none⟩ (.int .u8 k')):=by
 obtain ⟨m0,m1,m2,m3⟩:=h
 refine ⟨m0,?_,?_,m3.setCell (p:=⟨N,0,none⟩) (Nat.le_of_lt m0) _⟩
 ·rw[Below.heap_setCell _ _ _ _ (by show w.heap.size≠N;omega)];exact m1
 ·exact za3 (cs:=[.int .u8 k,.int .i64 num,.bool b,.int .i64 mg]) m2 0 _
theorem MkIn.empty {w:World} {N:Nat} {k num:Int} {b:Bool} {mg:Int} {wx:World} (h:MkIn w N k num b mg wx) (b':Bool):MkIn w N k num b' mg (wx.setCell ⟨N,2,none⟩ (.bool b')):=by
 obtain ⟨m0,m1,m2,m3⟩:=h
 refine ⟨m0,?_,?_,m3.setCell (p:=⟨N,2,none⟩) (Nat.le_of_lt m0) _⟩
 ·rw[Below.heap_setCell _ _ _ _ (by show w.heap.size≠N;omega)];exact m1
 ·exact za3 (cs:=[.int .u8 k,.int .i64 num,.bool b,.int .i64 mg]) m2 2 _
theorem MkIn.zaa {w:World} {N:Nat} {k num:Int} {b:Bool} {mg:Int} {wx:World} (h:MkIn w N k num b mg wx) (mg':Int):MkIn w N k num b mg' (wx.setCell ⟨N,3,none⟩ (.int .i64 mg')):=by
 obtain ⟨m0,m1,m2,m3⟩:=h
 refine ⟨m0,?_,?_,m3.setCell (p:=⟨N,3,none⟩) (Nat.le_of_lt m0) _⟩
 ·rw[Below.heap_setCell _ _ _ _ (by show w.heap.size≠N;omega)];exact m1
 ·exact za3 (cs:=[.int .u8 k,.int .i64 num,.bool b,.int .i64 mg]) m2 3 _
theorem zsq {W:World} {N T:Nat} {a0 a1 a2 a3:Value} (hx:W.heap[N]?=some (.cells #[a0,a1,a2,a3] T (0,0))) (v0 v1 v2 v3:Value) :
  ((((W.setCell ⟨N,0,none⟩ v0).setCell ⟨N,1,none⟩ v1).setCell ⟨N,2,none⟩ v2).setCell ⟨N,3,none⟩ v3).heap[N]?=some (.cells #[v0,v1,v2,v3] T (0,0)):=
 za3 (cs:=[v0,v1,v2,a3]) (za3 (cs:=[v0,v1,a2,a3]) (za3 (cs:=[v0,a1,a2,a3]) (za3 (cs:=[a0,a1,a2,a3]) hx 0 v0) 1 v1) 2 v2) 3 v3
theorem zkc {w W:World} (hb:Below w.heap.size w W) (v0 v1 v2 v3:Value) :
  Below w.heap.size w ((((W.setCell ⟨w.heap.size,0,none⟩ v0).setCell ⟨w.heap.size,1,none⟩ v1).setCell ⟨w.heap.size,2,none⟩ v2).setCell ⟨w.heap.size,3,none⟩ v3):=
 (((hb.setCell (p:=⟨w.heap.size,0,none⟩) (Nat.le_refl _) _).setCell (p:=⟨w.heap.size,1,none⟩) (Nat.le_refl _) _).setCell (p:=⟨w.heap.size,2,none⟩) (Nat.le_refl _) _).setCell (p:=⟨w.heap.size,3,none⟩) (Nat.le_refl _) _
theorem S.zz1 (l:List UInt8):S.dec l≤300*10 ^ l.length:=by
 have h:∀ (l:List UInt8) (a:Nat),l.foldl (fun a b=>a*10+(b.toNat-48)) a≤(a+300)*10 ^ l.length:=by
  intro l
  induction l with
  | nil=>intro a;simp
  | cons b l ih=>
   intro a
   have h1:=ih (a*10+(b.toNat-48))
   have h2:=b.toNat_lt
   rw[List.foldl_cons,List.length_cons,Nat.pow_succ]
   refine Nat.le_trans h1 ?_
   have h3:a*10+(b.toNat-48)+300≤(a+300)*10:=by omega
   refine Nat.le_trans (Nat.mul_le_mul_right _ h3) (Nat.le_of_eq ?_)
   rw[Nat.mul_assoc,Nat.mul_comm 10]
 have:=h l 0
 unfold S.dec;simpa using this
theorem S.zv5 (l:List UInt8) (n:Nat) (h:n≤S.digs l) (x:UInt8) (hx:l[n]?=some x) (hd:S.zfw x=true):S.digs l≠n:=by
 induction l generalizing n with
 | nil=>simp at hx
 | cons y r ih=>
  simp only[S.digs] at h ⊢
  cases n with
  | zero=>simp at hx;subst hx;rw[if_pos hd];omega
  | succ n=>
   split
   ·rename_i hy
    rw[if_pos hy] at h
    have:=ih n (by omega) (by simpa using hx)
    omega
   ·omega
theorem zpo (c:UInt8):S.zfw c=true↔(48:Int)≤(c.toNat:Int)∧(c.toNat:Int)≤57:=by
 unfold S.zfw
 rw[Bool.and_eq_true,decide_eq_true_iff,decide_eq_true_iff];omega
set_option maxRecDepth 100000 in
set_option maxHeartbeats 2000000 in
theorem zio (s:ByteArray) (w:World) (hs:s.size≤1000000) :
  Calls Tryz.prog 93 #[.string s] w (zvq s.data.toList w):=by
 obtain ⟨W0,hW0⟩:∃ W0,W0=w.alloc (.cells #[.int .u8 0,.int .i64 0,.bool false,.int .i64 0] 150):=⟨_,rfl⟩
 have hb0:Below w.heap.size w W0:=by rw[hW0];exact (Below.refl _ _).alloc (Nat.le_refl _) _
 have hz0:W0.heap.size=w.heap.size+1:=by rw[hW0];simp
 have hx0:W0.heap[w.heap.size]?=some (.cells #[.int .u8 0,.int .i64 0,.bool false,.int .i64 0] 150 (0,0)):=by rw[hW0];exact za1 _ _
 obtain ⟨WM,hWM⟩:∃ WM,WM=W0.alloc (.cells #[.int .u8 0,.int .i64 (-1),.bool false,.int .i64 0] 150):=⟨_,rfl⟩
 have hMk:Hid (MkIn w W0.heap.size 0 (-1) false 0 WM):=hid ⟨by omega,by rw[hWM,Below.heap_alloc _ _ _ (by omega)];exact hx0,by rw[hWM];exact za1 _ _,by rw[hWM];exact hb0.alloc (by omega) _⟩
 have hWMH:=hid hWM
 clear hWM
 have hW0H:=hid hW0
 have hb0H:=hid hb0
 have hz0H:=hid hz0
 have hx0H:=hid hx0
 clear hW0 hb0 hz0 hx0
 cases hsh:S.shallow s.data.toList with
 | nil=>
  have hE:Hid ((S.item s.data.toList).ok=false):=hid (by rw[S.zlj _ (.inl (by rw[hsh];rfl))])
  have hI:=hid (ztg s hs hsh W0)
  have d0:=za0 hx0H.out 0 _ rfl
  have d1:=za0 hx0H.out 1 _ rfl
  have d2:=za0 hx0H.out 2 _ rfl
  have d3:=za0 hx0H.out 3 _ rfl
  have g0:=za7 hx0H.out
  have hlt:w.heap.size<W0.heap.size:=by have:=hz0H.out;omega
  clear hsh
  go_enter Tryz.func93,Tryz.ntmps93
  go_wp2_with fail
  rw[← hW0H.out]
  refine hI.out.mono ?_
  rintro e w' ⟨rfl,rfl⟩
  go_wp2
  refine bodyPost_ret (v:=.tuple #[.agg #[.int .u8 0,.int .i64 0,.bool false,.int .i64 0],.bool false]) (by simp[results,Tryz.results93,go_sem,d0,d1,d2,d3]) rfl ?_
  refine ⟨0,0,false,0,by rw[hE.out],hid (fun h=>by rw[hE.out] at h;cases h),?_⟩
  repeat (refine Below.setCell ?_ (by simp) _)
  exact hb0H.out
 | cons d t=>
  obtain ⟨r,hrd,hrs,hg,hle,hc,hI,hR⟩:=zr6 s hs d t hsh
  have hnl:=S.z03 r.data.toList
  rw[S.length_data] at hnl
  have hda:=S.zt1 r.data.toList
  obtain ⟨n,hn⟩:∃ n,S.digs r.data.toList=n:=⟨_,rfl⟩
  have hnot:n<r.size→∀ h:n<r.size,¬ ((48:Int)≤(r[n].toNat:Int)∧(r[n].toNat:Int)≤57):=by
   intro _ h hd
   rw[← zpo] at hd
   have h1:=S.zaf r n h
   have h2:S.digs r.data.toList≠n:=S.zv5 r.data.toList n (by rw[hn];exact Nat.le_refl _) r[n] h1 hd
   exact h2 hn
  rw[hn] at hnl hda
  have hdig:Hid (∀ k,k<n→∀ h:k<r.size,(48:Int)≤(r[k].toNat:Int)∧(r[k].toNat:Int)≤57):=hid (fun k hk h=>by
   rw[← zpo]
   apply hda
   have:=S.zaf r k h
   exact List.mem_of_getElem? (by rw[List.getElem?_take_of_lt hk];exact this))
  have hok:S.item s.data.toList=if S.za6 r.data.toList=0∨S.zb3 r.data.toList (S.za6 r.data.toList)=false then ⟨0,0,0,false,false⟩ else ⟨r.data.toList.getD (S.za6 r.data.toList-1) 0,S.number (r.data.toList.take (S.za6 r.data.toList-1)),S.indent s.data.toList+S.za6 r.data.toList+(if S.blank (r.data.toList.drop (S.za6 r.data.toList))=true∨5≤S.indent (r.data.toList.drop (S.za6 r.data.toList)) then 1 else S.indent (r.data.toList.drop (S.za6 r.data.toList))),S.blank (r.data.toList.drop (S.za6 r.data.toList)),true⟩:=by
   unfold S.item;rw[hsh,hrd]
  have hlong:Hid (6<n→(S.item s.data.toList).ok=false):=hid (fun h=>by rw[hok,if_pos (.inl (S.zgs _ (by rw[hn];exact h)))])
  have hendn:Hid (n=r.size→(S.item s.data.toList).ok=false):=hid (fun h=>by rw[hok,if_pos (.inl (S.zhe _ (by rw[hn,S.length_data];exact h)))])
  have hnon:Hid (∀ h:n<r.size,r[n] ∉ S.zbw n→(S.item s.data.toList).ok=false):=hid (fun h hc=>by
   rw[hok,if_pos (.inl (S.zib _ r[n] (by rw[hn];exact S.zaf r n h) (by rw[hn];exact hc)))])
  have hsize:Hid (∀ h:n<r.size,¬ 6<n→r[n]∈S.zbw n→S.za6 r.data.toList=n+1):=hid (fun h h6 hc=>by
   rw[S.zhj _ r[n] (by rw[hn];exact h6) (by rw[hn];exact S.zaf r n h) (by rw[hn];exact hc),hn])
  have hokH:=hid hok
  have hnotH:=hid hnot
  have hIH:=hid (hI W0)
  have hRH:=hid (hR W0)
  have hrb:r.size≤1000000:=by omega
  clear hnot hda hI hR hok hn hsh hrd hrs hg
  go_enter Tryz.func93,Tryz.ntmps93
  go_wp2_with fail
  rw[← hW0H.out]
  refine hIH.out.mono ?_
  rintro e w' ⟨rfl,rfl⟩
  go_wp2_with fail
  refine hRH.out.mono ?_
  rintro e w' ⟨rfl,rfl⟩
  go_upto_region 6 with fail
  go_loop [6] (fun i=>∃ k:Nat,k≤n∧i = .int .i64 k) (fun i=>n-(intOf i).toNat)
  case atStart=>exact ⟨0,Nat.zero_le _,rfl⟩
  case round=>
   obtain ⟨k,hk,rfl⟩:=hrel
   by_cases hkn:k<n
   ·have hlt:k<r.size:=by omega
    have hI1:(k:Int)<(r.size:Int):=by omega
    have hdg:=hdig.out k hkn hlt
    obtain ⟨hd1,hd2⟩:=hdg
    go_wp2
    exact ⟨⟨k+1,by omega,by go_num⟩,by simp[intOf];omega⟩
   ·have hke:k=n:=by omega
    subst hke
    clear hkn
    by_cases hbad9:6<k∨k=r.size
    ·have hE:Hid ((S.item s.data.toList).ok=false):=hid (by
      rcases hbad9 with h|h
      ·exact hlong.out h
      ·exact hendn.out h)
     have hbad9H:=hid hbad9
     clear hbad9
     go_upto_region 6 with fail
     go_cut [34] (fun s34 wx=>s34 = .bool false∧W0=wx)
     case first=>
      by_cases hlt:k<r.size
      ·have h1:(k:Int)<(r.size:Int):=by omega
       have hnd:=hnotH.out hlt hlt
       by_cases h48:(48:Int)≤(r[k].toNat:Int)
       ·have h57:¬ (r[k].toNat:Int)≤57:=fun h=>hnd ⟨h48,h⟩
        clear hnd
        go_wp2
        go_meet
        exact ⟨rfl,rfl⟩
       ·clear hnd
        go_wp2
        go_meet
        exact ⟨rfl,rfl⟩
      ·have h1:¬ (k:Int)<(r.size:Int):=by omega
       go_wp2
       go_meet
       exact ⟨rfl,rfl⟩
     case rest=>
     obtain ⟨rfl,rfl⟩:=hcut
     go_upto_region 9 with fail
     rw[← hWMH.out]
     go_cut [45] (fun s45 wx=>s45 = .bool true∧WM=wx)
     case first=>
      by_cases h6:6<k
      ·have h2:(6:Int)<(k:Int):=by omega
       go_wp2
       go_meet
       exact ⟨rfl,rfl⟩
      ·have h2:¬ (6:Int)<(k:Int):=by omega
       have h3:((k:Int) == (r.size:Int))=true:=by
        rcases hbad9H.out with h|h
        ·omega
        ·rw[beq_iff_eq];omega
       go_wp2
       go_meet
       exact ⟨rfl,rfl⟩
     case rest=>
     obtain ⟨rfl,rfl⟩:=hcut
     have hME:=hMk.out
     have z0:=zsq hME.2.1 (.int .u8 0) (.int .i64 (-1)) (.bool false) (.int .i64 0)
     have hbz:=hid (zkc hME.2.2.2 (.int .u8 0) (.int .i64 (-1)) (.bool false) (.int .i64 0))
     have hz:=hid z0
     have c0:=za0 hME.2.2.1 0 _ rfl
     have c1:=za0 hME.2.2.1 1 _ rfl
     have c2:=za0 hME.2.2.1 2 _ rfl
     have c3:=za0 hME.2.2.1 3 _ rfl
     have d0:=za0 hME.2.1 0 _ rfl
     have d1:=za0 hME.2.1 1 _ rfl
     have d2:=za0 hME.2.1 2 _ rfl
     have d3:=za0 hME.2.1 3 _ rfl
     have g0:=za7 hME.2.1
     clear hME z0
     go_wp2
     refine bodyPost_ret (v:=.tuple #[.agg #[.int .u8 0,.int .i64 (-1),.bool false,.int .i64 0],.bool false]) (by have z0:=za0 hz.out 0 _ rfl;have z1:=za0 hz.out 1 _ rfl;have z2:=za0 hz.out 2 _ rfl;have z3:=za0 hz.out 3 _ rfl;simp[results,Tryz.results93,go_sem,z0,z1,z2,z3]) rfl ?_
     exact ⟨0,-1,false,0,by rw[hE.out],hid (fun h=>by rw[hE.out] at h;cases h),hbz.out⟩
    ·have h6:¬ 6<k:=fun h=>hbad9 (.inl h)
     have hlt:k<r.size:=by
      rcases Nat.lt_or_ge k r.size with h|h
      ·exact h
      ·exact absurd (.inr (by omega)) hbad9
     have h6':¬ (6:Int)<(k:Int):=by omega
     have h7':((k:Int) == (r.size:Int))=false:=by rw[beq_eq_false_iff_ne];omega
     have h8':(k:Int)<(r.size:Int):=by omega
     have hltO:k<r.size:=hlt
     clear hbad9
     go_upto_region 6 with fail
     go_cut [34] (fun s34 wx=>s34 = .bool false∧W0=wx)
     case first=>
      by_cases hlt:k<r.size
      ·have h1:(k:Int)<(r.size:Int):=by omega
       have hnd:=hnotH.out hlt hlt
       by_cases h48:(48:Int)≤(r[k].toNat:Int)
       ·have h57:¬ (r[k].toNat:Int)≤57:=fun h=>hnd ⟨h48,h⟩
        clear hnd
        go_wp2
        go_meet
        exact ⟨rfl,rfl⟩
       ·clear hnd
        go_wp2
        go_meet
        exact ⟨rfl,rfl⟩
      ·exact absurd hltO hlt
     case rest=>
     obtain ⟨rfl,rfl⟩:=hcut
     go_upto_region 9 with fail
     rw[← hWMH.out]
     by_cases hm:r[k]∈S.zbw k
     ·have hms:=hid (hsize.out hlt h6 hm)
      have hdl:=S.zz1 (r.data.toList.take k)
      rw[List.length_take,S.length_data,Nat.min_eq_left (Nat.le_of_lt hlt)] at hdl
      have hpow:10 ^ k≤10 ^ 6:=Nat.pow_le_pow_right (by decide) (by omega)
      go_upto_region 12 with fail
      go_cut [75] (fun s75 wx=>s75 = .bool false∧WM=wx)
      case first=>
       by_cases hk0:k=0
       ·have hme:S.zbw k=[45,43,42]:=by unfold S.zbw;rw[if_pos hk0]
        rw[hme] at hm
        have k1:((k:Int) == 0)=true:=by rw[beq_iff_eq];omega
        have k3:¬ 0<k:=by omega
        have hm3:(r[k].toNat:Int)=45∨(r[k].toNat:Int)=43∨(r[k].toNat:Int)=42:=by
         simp at hm
         rcases hm with h|h|h
         ·exact .inl (by rw[h];rfl)
         ·exact .inr (.inl (by rw[h];rfl))
         ·exact .inr (.inr (by rw[h];rfl))
        clear hme hk0 hm
        rcases hm3 with h|h|h
        all_goals
         have hH:=hid h
         go_wp2
         rw[← hH.out]
         go_meet
         exact ⟨by first|rfl|simp[hH.out],rfl⟩
       ·have hme:S.zbw k=[46,41]:=by unfold S.zbw;rw[if_neg hk0]
        rw[hme] at hm
        have k1:((k:Int) == 0)=false:=by rw[beq_eq_false_iff_ne];omega
        have k2:(0:Int)<(k:Int):=by omega
        have k3:0<k:=by omega
        have hm3:(r[k].toNat:Int)=46∨(r[k].toNat:Int)=41:=by
         simp at hm
         rcases hm with h|h
         ·exact .inl (by rw[h];rfl)
         ·exact .inr (by rw[h];rfl)
        clear hme hk0 hm
        rcases hm3 with h|h
        all_goals
         have hH:=hid h
         go_wp2
         rw[← hH.out]
         go_meet
         exact ⟨by first|rfl|(simp[hH.out];done)|(simp;done)|(simp;intro _;exact hH.out),rfl⟩
      case rest=>
      obtain ⟨rfl,rfl⟩:=hcut
      go_upto_if 78 with fail
      go_cut [9] (fun _ wx=>Hid (MkIn w W0.heap.size 0 (S.number (r.data.toList.take k)) false 0 wx))
      case first=>
       by_cases hk0:k=0
       ·have hM0:Hid (MkIn w W0.heap.size 0 (S.number (r.data.toList.take k)) false 0 WM):=hid (by rw[hk0,show S.number (r.data.toList.take 0) = -1 by simp[S.number]];exact hMk.out)
        have k1:¬ (0:Int)<(k:Int):=by omega
        clear hk0
        go_wp2
        go_meet
        exact hM0
       ·have k1:(0:Int)<(k:Int):=by omega
        have hnum:Hid (S.number (r.data.toList.take k)=(S.dec (r.data.toList.take k):Int)):=hid (by
         unfold S.number
         rw[if_neg]
         intro e
         have:=congrArg List.length e
         rw[List.length_take,S.length_data,List.length_nil] at this;omega)
        have hM1:Hid (MkIn w W0.heap.size 0 0 false 0 (WM.setCell ⟨W0.heap.size,1,none⟩ (.int .i64 0))):=hid (by
         obtain ⟨m0,m1,m2,m3⟩:=hMk.out
         refine ⟨m0,?_,?_,m3.setCell (p:=⟨W0.heap.size,1,none⟩) (Nat.le_of_lt m0) _⟩
         ·rw[Below.heap_setCell _ _ _ _ (by show w.heap.size≠W0.heap.size;omega)];exact m1
         ·exact za3 (cs:=[.int .u8 0,.int .i64 (-1),.bool false,.int .i64 0]) m2 1 _)
        have c1:WM.cell? ⟨W0.heap.size,1,none⟩=some (.int .i64 (-1)):=za0 hMk.out.2.2.1 1 _ rfl
        have f1:WM.frozen? ⟨W0.heap.size,1,none⟩=false:=za7 hMk.out.2.2.1 1
        clear hk0 hm
        go_wp2
        go_loopw [9] (fun s9 wr=>∃ i:Nat,i≤k∧s9 = .int .i64 i∧Hid (MkIn w W0.heap.size 0 (S.dec (r.data.toList.take i):Int) false 0 wr)) (fun s9 _=>k-(intOf s9).toNat)
        case atStart=>exact ⟨0,Nat.zero_le _,rfl,hM1⟩
        case round=>
         obtain ⟨i,hik,rfl,hMi⟩:=hrel
         by_cases hlti:i<k
         ·have hilt:i<r.size:=by omega
          have hI1:(i:Int)<(k:Int):=by omega
          have hI2:(i:Int)<(r.size:Int):=by omega
          have hI3:(0:Int)≤(i:Int):=by omega
          obtain ⟨hd1,hd2⟩:=hdig.out i hlti hilt
          have hgi:r.data.toList[i]?=some r[i]:=S.zaf r i hilt
          have hsn:S.dec (r.data.toList.take (i+1))=S.dec (r.data.toList.take i)*10+(r[i].toNat-48):=by
           unfold S.dec;rw[List.take_add_one,hgi];simp
          have hdi:=S.zz1 (r.data.toList.take (i+1))
          rw[List.length_take,S.length_data,Nat.min_eq_left (by omega)] at hdi
          have hpi:10 ^ (i+1)≤10 ^ 6:=Nat.pow_le_pow_right (by decide) (by omega)
          obtain ⟨D,hD⟩:∃ D,S.dec (r.data.toList.take i)=D:=⟨_,rfl⟩
          obtain ⟨E,hE⟩:∃ E,S.dec (r.data.toList.take (i+1))=E:=⟨_,rfl⟩
          rw[hD,hE] at hsn
          rw[hE] at hdi
          rw[hD] at hMi
          have hEb:E≤300000000:=by omega
          have c1':wr.cell? ⟨W0.heap.size,1,none⟩=some (.int .i64 (D:Int)):=za0 hMi.out.2.2.1 1 _ rfl
          have f1':wr.frozen? ⟨W0.heap.size,1,none⟩=false:=za7 hMi.out.2.2.1 1
          have hw1:IntKind.u8.wrap ((r[i].toNat:Int)-48)=(r[i].toNat:Int)-48:=by
           have:=r[i].toNat_lt
           simp[IntKind.wrap,IntKind.bits,IntKind.signed];omega
          have hw2:IntKind.i64.wrap (10*(D:Int))=10*(D:Int):=by rw[IntKind.wrap_i64];omega
          have hw3:IntKind.i64.wrap (10*(D:Int)+((r[i].toNat:Int)-48))=(E:Int):=by rw[IntKind.wrap_i64];omega
          have hMn:Hid (MkIn w W0.heap.size 0 (E:Int) false 0 ((wr.setCell ⟨W0.heap.size,1,none⟩ (.int .i64 (E:Int))))):=hid (by
           obtain ⟨m0,m1,m2,m3⟩:=hMi.out
           refine ⟨m0,?_,?_,m3.setCell (p:=⟨W0.heap.size,1,none⟩) (Nat.le_of_lt m0) _⟩
           ·rw[Below.heap_setCell _ _ _ _ (by show w.heap.size≠W0.heap.size;omega)];exact m1
           ·exact za3 (cs:=[.int .u8 0,.int .i64 (D:Int),.bool false,.int .i64 0]) m2 1 _)
          have hEH:=hid hE
          clear hgi hD hE hsn hdi hpi
          go_wp2_with fail
          go_region
          go_wp2
          go_roundw
          case rel=>exact ⟨i+1,by omega,by go_num,by rw[hEH.out];exact hid hMn.out.drew⟩
          case measure=>simp[intOf];omega
         ·have hie:i=k:=by omega
          subst hie
          have hMf:Hid (MkIn w W0.heap.size 0 (S.number (r.data.toList.take i)) false 0 wr):=hid (by rw[hnum.out];exact hMi.out)
          clear hMi
          go_wp2
          go_meet
          exact hMf
      case rest=>
      have hM1:=hcut
      have hck0:=hdl
      obtain ⟨num,hnm⟩:∃ num,S.number (r.data.toList.take k)=num:=⟨_,rfl⟩
      rw[hnm] at hM1
      obtain ⟨kc,hkc⟩:∃ kc:Int,(r[k].toNat:Int)=kc:=⟨_,rfl⟩
      obtain ⟨W1,hW1⟩:∃ W1,W1=wc.setCell ⟨W0.heap.size,0,none⟩ (.int .u8 kc):=⟨_,rfl⟩
      have hM2:Hid (MkIn w W0.heap.size kc num false 0 W1):=hid (by rw[hW1];exact hM1.out.kind kc)
      have b0:wc.cell? ⟨W0.heap.size,0,none⟩=some (.int .u8 0):=za0 hM1.out.2.2.1 0 _ rfl
      have a0:wc.frozen? ⟨W0.heap.size,0,none⟩=false:=za7 hM1.out.2.2.1 0
      have hkcH:=hid hkc
      have hW1H:=hid hW1
      obtain ⟨th,hth⟩:∃ th,r.extract (k+1) r.size=th:=⟨_,rfl⟩
      have hthd:th.data.toList=r.data.toList.drop (k+1):=by rw[← hth,S.zbf]
      have hths:th.size=r.size-(k+1):=by rw[← hth];simp
      have hton:((k:Int)+1).toNat=k+1:=by omega
      have hQ0:(0:Int)≤(k:Int)+1:=by omega
      have hQ1:(k:Int)+1≤(r.size:Int):=by omega
      have hwr1:IntKind.i64.wrap ((k:Int)+1)=(k:Int)+1:=by rw[IntKind.wrap_i64];omega
      have hnmH:=hid hnm
      have hthdH:=hid hthd
      clear hW1 hcut hM1 hnm hm hpow hdl hck0 hkc hthd
      go_upto_region 22 with fail
      rw[hkcH.out,← hW1H.out]
      obtain ⟨ew,hew⟩:∃ ew,S.zb3 r.data.toList (k+1)=ew:=⟨_,rfl⟩
      have hewH:=hid hew
      have hthsH:=hid hths
      clear hew hths hth
      go_cut [107] (fun s107 wx=>s107 = .bool (!ew)∧W1=wx)
      case first=>
       by_cases hfull:k+1=r.size
       ·have hl0:th.toList=[]:=by
         rw[ByteArray.toList_eq,hthdH.out];exact List.drop_eq_nil_of_le (by rw[S.length_data];omega)
        have he:Hid (ew=true):=hid (by rw[← hewH.out];unfold S.zb3;rw[S.length_data,decide_eq_true hfull];rfl)
        clear hfull
        go_wp2
        go_meet
        exact ⟨by rw[he.out];rfl,rfl⟩
       ·have hz:0<th.size:=by have:=hthsH.out;omega
        have hl1:¬ th.toList=[]:=by
         rw[ByteArray.toList_eq];intro e
         have:=congrArg List.length e
         rw[S.length_data,List.length_nil] at this;omega
        have hg0:r.data.toList[k+1]?=some th[0]:=by
         have h1:=S.zaf th 0 hz
         rw[hthdH.out,List.getElem?_drop,Nat.add_zero] at h1;exact h1
        have hz':(0:Int)<(th.size:Int):=by omega
        by_cases h32:th[0]=32
        ·have he:Hid (ew=true):=hid (by rw[← hewH.out];unfold S.zb3;rw[hg0,h32];simp)
         have e1:((th[0].toNat:Int) != 32)=false:=by simp[h32]
         clear hfull hg0 h32
         go_wp2
         go_meet
         exact ⟨by rw[he.out];rfl,rfl⟩
        ·have he:Hid (ew=false):=hid (by rw[← hewH.out];unfold S.zb3;rw[hg0,S.length_data,decide_eq_false hfull];simpa using h32)
         have e1:((th[0].toNat:Int) != 32)=true:=by rw[bne_iff_ne];intro h;exact h32 (UInt8.toNat_inj.1 (by show th[0].toNat=32;omega))
         clear hfull hg0 h32
         go_wp2
         go_meet
         exact ⟨by rw[he.out];first|rfl|simp[hl1],rfl⟩
      case rest=>
      obtain ⟨rfl,rfl⟩:=hcut
      have hM5:=hM2
      cases ew
      ·have hE:Hid ((S.item s.data.toList).ok=false):=hid (by rw[hokH.out,hms.out,if_pos (.inr hewH.out)])
       have hME:=hM5.out
       have hz5:=hid (zsq hME.2.1 (.int .u8 kc) (.int .i64 num) (.bool false) (.int .i64 0))
       have hbz:=hid (zkc hME.2.2.2 (.int .u8 kc) (.int .i64 num) (.bool false) (.int .i64 0))
       have c0:=za0 hME.2.2.1 0 _ rfl
       have c1:=za0 hME.2.2.1 1 _ rfl
       have c2:=za0 hME.2.2.1 2 _ rfl
       have c3:=za0 hME.2.2.1 3 _ rfl
       have d0:=za0 hME.2.1 0 _ rfl
       have d1:=za0 hME.2.1 1 _ rfl
       have d2:=za0 hME.2.1 2 _ rfl
       have d3:=za0 hME.2.1 3 _ rfl
       have g0:=za7 hME.2.1
       clear hME
       go_wp2
       refine bodyPost_ret (v:=.tuple #[.agg #[.int .u8 kc,.int .i64 num,.bool false,.int .i64 0],.bool false]) (by have z0:=za0 hz5.out 0 _ rfl;have z1:=za0 hz5.out 1 _ rfl;have z2:=za0 hz5.out 2 _ rfl;have z3:=za0 hz5.out 3 _ rfl;simp[results,Tryz.results93,go_sem,z0,z1,z2,z3]) rfl ?_
       exact ⟨kc,num,false,0,by rw[hE.out],hid (fun h=>by rw[hE.out] at h;cases h),hbz.out⟩
      ·have hIt:S.item s.data.toList=⟨r.data.toList.getD k 0,num,S.indent s.data.toList+(k+1)+(if S.blank th.data.toList=true∨5≤S.indent th.data.toList then 1 else S.indent th.data.toList),S.blank th.data.toList,true⟩:=by
        rw[hokH.out,hms.out,if_neg,Nat.add_sub_cancel,hnmH.out,hthdH.out]
        rintro (h|h)
        ·omega
        ·rw[hewH.out] at h;cases h
       have hkd:(r.data.toList.getD k 0).toNat=kc:=by
        rw[List.getD_eq_getElem?_getD,S.zaf r k hltO];exact hkcH.out
       have hthb:th.size≤1000000:=by have:=hthsH.out;omega
       have hBl:=zc1 th W1 hthb
       have hsi:=S.zbt s.data.toList
       rw[S.length_data] at hsi
       have hti:=S.zbt th.data.toList
       rw[S.length_data] at hti
       obtain ⟨bl,hbl⟩:∃ bl,S.blank th.data.toList=bl:=⟨_,rfl⟩
       obtain ⟨sp,hsp⟩:∃ sp,S.indent th.data.toList=sp:=⟨_,rfl⟩
       obtain ⟨si,hsi2⟩:∃ si,S.indent s.data.toList=si:=⟨_,rfl⟩
       rw[hbl] at hBl
       rw[hbl,hsp,hsi2] at hIt
       rw[hsi2] at hsi
       rw[hsp] at hti
       obtain ⟨mk,hmk⟩:∃ mk:Nat,(if bl=true∨5≤sp then 1 else sp)=mk:=⟨_,rfl⟩
       rw[hmk] at hIt
       have hmkb:mk≤1000000:=by rw[← hmk];split <;> omega
       have hIn2:Hid (∀ wx,Calls Tryz.prog 88 #[.string th] wx fun e w'=>e = .returned (.int .i64 (sp:Nat))∧wx=w'):=hid (fun wx=>by
        have:=zc3 th wx hthb
        rw[hsp] at this
        exact this.mono (fun e w' ⟨h1,h2⟩=>⟨h1,h2.symm⟩))
       have hIn1:Hid (∀ wx,Calls Tryz.prog 88 #[.string s] wx fun e w'=>e = .returned (.int .i64 (si:Nat))∧wx=w'):=hid (fun wx=>by
        have:=zc3 s wx hs
        rw[hsi2] at this
        exact this.mono (fun e w' ⟨h1,h2⟩=>⟨h1,h2.symm⟩))
       have hBH:Hid (Calls Tryz.prog 67 #[.string th] W1 fun e w'=>e = .returned (.bool bl)∧W1=w'):=hid (hBl.mono (fun e w' ⟨h1,h2⟩=>⟨h1,h2.symm⟩))
       obtain ⟨W2,hW2⟩:∃ W2,W2=W1.setCell ⟨W0.heap.size,2,none⟩ (.bool bl):=⟨_,rfl⟩
       have hM3:Hid (MkIn w W0.heap.size kc num bl 0 W2):=hid (by rw[hW2];exact hM2.out.empty bl)
       obtain ⟨W4,hW4⟩:∃ W4,W4=W2.setCell ⟨W0.heap.size,3,none⟩ (.int .i64 ((si:Int)+(k:Int)+1+(mk:Int))):=⟨_,rfl⟩
       have hM4:Hid (MkIn w W0.heap.size kc num bl ((si:Int)+(k:Int)+1+(mk:Int)) W4):=hid (by rw[hW4];exact hM3.out.zaa _)
       have p2:W1.cell? ⟨W0.heap.size,2,none⟩=some (.bool false):=za0 hM2.out.2.2.1 2 _ rfl
       have q2:W1.frozen? ⟨W0.heap.size,2,none⟩=false:=za7 hM2.out.2.2.1 2
       have p22:W2.cell? ⟨W0.heap.size,2,none⟩=some (.bool bl):=za0 hM3.out.2.2.1 2 _ rfl
       have p3:W2.cell? ⟨W0.heap.size,3,none⟩=some (.int .i64 0):=za0 hM3.out.2.2.1 3 _ rfl
       have q3:W2.frozen? ⟨W0.heap.size,3,none⟩=false:=za7 hM3.out.2.2.1 3
       have hW2H:=hid hW2
       have hW4H:=hid hW4
       have hItH:=hid hIt
       have hkdH:=hid hkd
       have hmkH:=hid hmk
       have hwa:IntKind.i64.wrap ((si:Int)+(k:Int))=(si:Int)+(k:Int):=by rw[IntKind.wrap_i64];omega
       have hwb:IntKind.i64.wrap ((si:Int)+(k:Int)+1)=(si:Int)+(k:Int)+1:=by rw[IntKind.wrap_i64];omega
       have hwc:IntKind.i64.wrap ((si:Int)+(k:Int)+1+(mk:Int))=(si:Int)+(k:Int)+1+(mk:Int):=by rw[IntKind.wrap_i64];omega
       clear hW2 hW4 hIt hkd hBl hbl hsp hsi2 hmk hM5
       go_wp2_with fail
       refine hBH.out.mono ?_
       rintro e w' ⟨rfl,rfl⟩
       go_upto_region 25 with fail
       rw[← hW2H.out]
       go_wp2_with fail
       refine (hIn2.out _).mono ?_
       rintro e w' ⟨rfl,rfl⟩
       go_upto_region 26 with fail
       obtain ⟨cd,hcd⟩:∃ cd:Bool,(bl || decide (5≤sp))=cd:=⟨_,rfl⟩
       have hcdH:=hid hcd
       clear hcd
       go_cut [119] (fun s119 wx=>s119 = .bool cd∧W2=wx)
       case first=>
        cases bl
        ·by_cases h5:5≤sp
         ·have h5':(5:Int)≤(sp:Int):=by omega
          have he:Hid (cd=true):=hid (by rw[← hcdH.out,decide_eq_true h5];rfl)
          go_wp2
          go_meet
          exact ⟨by rw[he.out],rfl⟩
         ·have h5':¬ (5:Int)≤(sp:Int):=by omega
          have he:Hid (cd=false):=hid (by rw[← hcdH.out,decide_eq_false h5];rfl)
          go_wp2
          go_meet
          exact ⟨by rw[he.out],rfl⟩
        ·have he:Hid (cd=true):=hid (by rw[← hcdH.out];rfl)
         go_wp2
         go_meet
         exact ⟨by rw[he.out],rfl⟩
       case rest=>
       obtain ⟨rfl,rfl⟩:=hcut
       go_upto_if 119 with fail
       go_cut [11] (fun s11 wx=>s11 = .int .i64 (mk:Nat)∧W2=wx)
       case first=>
        cases cd
        ·have he:Hid (mk=sp):=hid (by
          rw[← hmkH.out,if_neg]
          rintro (h|h)
          ·have:=hcdH.out;rw[h] at this;simp at this
          ·have:=hcdH.out;rw[decide_eq_true h,Bool.or_true] at this;cases this)
         go_wp2
         go_meet
         exact ⟨by rw[he.out],rfl⟩
        ·have he:Hid (mk=1):=hid (by
          rw[← hmkH.out,if_pos]
          have:=hcdH.out
          rw[Bool.or_eq_true,decide_eq_true_iff] at this;exact this)
         go_wp2
         go_meet
         exact ⟨by rw[he.out];rfl,rfl⟩
       case rest=>
       obtain ⟨rfl,rfl⟩:=hcut
       go_wp2_with fail
       refine (hIn1.out _).mono ?_
       rintro e w' ⟨rfl,rfl⟩
       go_upto_region 29 with fail
       rw[← hW4H.out]
       have hM5:=hM4
       have hME:=hM5.out
       have hz5:=hid (zsq hME.2.1 (.int .u8 kc) (.int .i64 num) (.bool bl) (.int .i64 ((si:Int)+(k:Int)+1+(mk:Int))))
       have hbz:=hid (zkc hME.2.2.2 (.int .u8 kc) (.int .i64 num) (.bool bl) (.int .i64 ((si:Int)+(k:Int)+1+(mk:Int))))
       have c0:=za0 hME.2.2.1 0 _ rfl
       have c1:=za0 hME.2.2.1 1 _ rfl
       have c2:=za0 hME.2.2.1 2 _ rfl
       have c3:=za0 hME.2.2.1 3 _ rfl
       have d0:=za0 hME.2.1 0 _ rfl
       have d1:=za0 hME.2.1 1 _ rfl
       have d2:=za0 hME.2.1 2 _ rfl
       have d3:=za0 hME.2.1 3 _ rfl
       have g0:=za7 hME.2.1
       clear hME
       go_wp2
       refine bodyPost_ret (v:=.tuple #[.agg #[.int .u8 kc,.int .i64 num,.bool bl,.int .i64 ((si:Int)+(k:Int)+1+(mk:Int))],.bool true]) (by have z0:=za0 hz5.out 0 _ rfl;have z1:=za0 hz5.out 1 _ rfl;have z2:=za0 hz5.out 2 _ rfl;have z3:=za0 hz5.out 3 _ rfl;simp[results,Tryz.results93,go_sem,z0,z1,z2,z3]) rfl ?_
       refine ⟨kc,num,bl,(si:Int)+(k:Int)+1+(mk:Int),by rw[hItH.out],hid (fun _=>?_),hbz.out⟩
       rw[hItH.out]
       exact ⟨hkdH.out.symm,rfl,rfl,by show _=((si+(k+1)+mk:Nat):Int);omega⟩
     ·have hE:=hid (hnon.out hlt hm)
      have hne:Hid (∀ c:UInt8,c∈S.zbw k→¬ (r[k].toNat:Int)=(c.toNat:Int)):=hid (fun c hc=>by
       intro h
       have e:r[k]=c:=UInt8.toNat_inj.1 (by omega)
       rw[e] at hm
       exact hm hc)
      clear hm
      go_upto_region 12 with fail
      go_cut [75] (fun s75 wx=>s75 = .bool true∧WM=wx)
      case first=>
       by_cases hk0:k=0
       ·have hme:S.zbw k=[45,43,42]:=by unfold S.zbw;rw[if_pos hk0]
        have e1:¬ (r[k].toNat:Int)=45:=hne.out 45 (by rw[hme];decide)
        have e2:¬ (r[k].toNat:Int)=43:=hne.out 43 (by rw[hme];decide)
        have e3:¬ (r[k].toNat:Int)=42:=hne.out 42 (by rw[hme];decide)
        have k1:((k:Int) == 0)=true:=by rw[beq_iff_eq];omega
        have k3:¬ 0<k:=by omega
        clear hme hk0
        go_wp2
        go_meet
        exact ⟨by first|rfl|simp[k1,e1,e2,e3],rfl⟩
       ·have hme:S.zbw k=[46,41]:=by unfold S.zbw;rw[if_neg hk0]
        have e4:¬ (r[k].toNat:Int)=46:=hne.out 46 (by rw[hme];decide)
        have e5:¬ (r[k].toNat:Int)=41:=hne.out 41 (by rw[hme];decide)
        have k1:((k:Int) == 0)=false:=by rw[beq_eq_false_iff_ne];omega
        have k2:(0:Int)<(k:Int):=by omega
        have k3:0<k:=by omega
        clear hme hk0
        go_wp2
        go_meet
        exact ⟨by first|rfl|(simp;exact ⟨e4,e5⟩),rfl⟩
      case rest=>
      obtain ⟨rfl,rfl⟩:=hcut
      have hME:=hMk.out
      have z0:=zsq hME.2.1 (.int .u8 0) (.int .i64 (-1)) (.bool false) (.int .i64 0)
      have hbz:=hid (zkc hME.2.2.2 (.int .u8 0) (.int .i64 (-1)) (.bool false) (.int .i64 0))
      have hz:=hid z0
      have c0:=za0 hME.2.2.1 0 _ rfl
      have c1:=za0 hME.2.2.1 1 _ rfl
      have c2:=za0 hME.2.2.1 2 _ rfl
      have c3:=za0 hME.2.2.1 3 _ rfl
      have d0:=za0 hME.2.1 0 _ rfl
      have d1:=za0 hME.2.1 1 _ rfl
      have d2:=za0 hME.2.1 2 _ rfl
      have d3:=za0 hME.2.1 3 _ rfl
      have g0:=za7 hME.2.1
      clear hME z0
      go_wp2
      refine bodyPost_ret (v:=.tuple #[.agg #[.int .u8 0,.int .i64 (-1),.bool false,.int .i64 0],.bool false]) (by have z0:=za0 hz.out 0 _ rfl;have z1:=za0 hz.out 1 _ rfl;have z2:=za0 hz.out 2 _ rfl;have z3:=za0 hz.out 3 _ rfl;simp[results,Tryz.results93,go_sem,z0,z1,z2,z3]) rfl ?_
      exact ⟨0,-1,false,0,by rw[hE.out],hid (fun h=>by rw[hE.out] at h;cases h),hbz.out⟩
namespace S
def zwd (l:List UInt8):Bool:=blank l || zbu l || decide (0<zau l) || (fence l).ok || zar l || ((item l).ok && (!(item l).empty && ((item l).number == -1 || (item l).number == 1)))
theorem zwc (l:List UInt8):zcj l=(decide (0<zac l) || zwd l):=by
 unfold zcj zwd
 cases blank l <;> cases decide (0<zac l) <;> cases zbu l <;> cases decide (0<zau l) <;> cases (fence l).ok <;> cases zar l <;> rfl
theorem zrh (l:List UInt8) (h:(fence l).ok=true):3≤(fence l).width:=by
 unfold fence at h ⊢
 split at h
 ·cases h
 ·split at h
  ·rename_i c t hc hcc
   simp only[hcc,if_true]
   simp only[zcd,Bool.and_eq_true,decide_eq_true_eq] at h
   exact h.1
  ·cases h
end S
set_option maxRecDepth 100000 in
set_option maxHeartbeats 4000000 in
theorem zva (s:ByteArray) (w:World) (hs:s.size≤1000000) :
  Calls Tryz.prog 144 #[.string s] w fun e w'=>e = .returned (.bool (S.zwd s.data.toList))∧Below w.heap.size w w':=by
 have hA:=hid ((zc1 s w hs).mono (fun e w' ⟨h1,h2⟩=>(⟨h1,h2.symm⟩:e=_∧w=w')))
 have hB:=hid ((zks s w hs).mono (fun e w' ⟨h1,h2⟩=>(⟨h1,h2.symm⟩:e=_∧w=w')))
 have hC:=hid (znf s w hs)
 have hD:=hid (zn8 s w hs)
 have hE:=hid ((zfr s w hs).mono (fun e w' ⟨h1,h2⟩=>(⟨h1,h2.symm⟩:e=_∧w=w')))
 have hF:=hid (zio s w hs)
 obtain ⟨R,hR⟩:∃ R,S.zwd s.data.toList=R:=⟨_,rfl⟩
 have hRd:R=(S.blank s.data.toList || S.zbu s.data.toList || decide (0<S.zau s.data.toList) || (S.fence s.data.toList).ok || S.zar s.data.toList || ((S.item s.data.toList).ok && (!(S.item s.data.toList).empty && ((S.item s.data.toList).number == -1 || (S.item s.data.toList).number == 1)))):=by rw[← hR];rfl
 rw[hR]
 have hRH:=hid hRd
 obtain ⟨a,ha⟩:∃ a,S.blank s.data.toList=a:=⟨_,rfl⟩
 obtain ⟨b,hb⟩:∃ b,S.zbu s.data.toList=b:=⟨_,rfl⟩
 obtain ⟨c,hc⟩:∃ c,S.zau s.data.toList=c:=⟨_,rfl⟩
 obtain ⟨q,hq⟩:∃ q,S.zar s.data.toList=q:=⟨_,rfl⟩
 rw[ha,hb,hc,hq] at hRH
 rw[ha] at hA
 rw[hb] at hB
 rw[hc] at hC
 rw[hq] at hE
 clear ha hb hc hq hR hRd
 go_enter Tryz.func144,Tryz.ntmps144
 go_wp2_with fail
 refine hA.out.mono ?_
 rintro e w' ⟨rfl,rfl⟩
 go_wp2_with fail
 refine hB.out.mono ?_
 rintro e w' ⟨rfl,rfl⟩
 go_wp2_with fail
 refine hC.out.mono ?_
 rintro e w' ⟨X,rfl,_,rfl⟩
 go_wp2_with fail
 refine hD.out.mono ?_
 rintro e w' ⟨m,k,x,rfl,hfe,rfl⟩
 go_wp2_with fail
 refine hE.out.mono ?_
 rintro e w' ⟨rfl,rfl⟩
 go_wp2_with fail
 refine hF.out.mono ?_
 rintro e w1 ⟨ik,inn,ib,im,rfl,hit,hbw⟩
 have hRR:Hid (R=(a || b || decide ((0:Int)<(c:Int)) || decide ((0:Int)<k) || q || ((S.item s.data.toList).ok && (!ib && (inn == -1 || inn == 1))))):=hid (by
  rw[hRH.out]
  have h1:(S.fence s.data.toList).ok=decide ((0:Int)<k):=by
   have:=hfe.out.2
   split at this
   ·rename_i h
    rw[h]
    symm
    rw[decide_eq_true_iff,this.2.1]
    have:=S.zrh _ h
    omega
   ·rename_i h
    rw[this]
    simpa using h
  have h2:decide (0<c)=decide ((0:Int)<(c:Int)):=by rw[decide_eq_decide];omega
  rw[h1,h2]
  congr 1
  cases hok:(S.item s.data.toList).ok with
  | false=>rfl
  | true=>
   obtain ⟨_,i2,i3,_⟩:=hit.out hok
   rw[i2,i3])
 obtain ⟨f,hf⟩:∃ f,(S.item s.data.toList).ok=f:=⟨_,rfl⟩
 rw[hf] at hRR ⊢
 have hbwH:=hid hbw
 clear hf hfe hit hRH hbw
 go_wp2
 all_goals
  go_ret
  exact ⟨zaw (by rw[hRR.out];first|(simp[*];done)|(simp[*];left;left;left;omega)),hbwH.out.alloc hbwH.out.size _⟩
end Go.Proofs.YtlojgpkajkedeaaGreatDoor
