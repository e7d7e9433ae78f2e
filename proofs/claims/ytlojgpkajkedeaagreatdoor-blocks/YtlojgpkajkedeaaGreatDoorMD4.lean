import Derived.Test.YtlojgpkajkedeaaGreatDoorMD3
import Derived.Lib.IndexLaws
import Derived.Lib.Replace
import Derived.Lib.SplitLaws
namespace Go.Proofs.YtlojgpkajkedeaaGreatDoor
open Go.RowKit
theorem zcz (s:ByteArray) (i j:Nat):(s.extract i j).data.toList=(s.data.toList.drop i).take (j-i):=by
 rw[Lib.extract_data]
theorem zbh (s:ByteArray) (i:Nat):(s.extract i s.size).data.toList=s.data.toList.drop i:=S.zbf s i
set_option maxRecDepth 100000 in
set_option maxHeartbeats 2000000 in
theorem zi8 (s:ByteArray) (w:World) (hs:s.size≤1000000) :
  Calls Tryz.prog 237 #[.string s] w fun e w'=>∃ r:ByteArray,e = .returned (.tuple #[.string r,.bool (S.zd1 s.data.toList)])∧Hid (S.zd1 s.data.toList=true→r.data.toList=S.addrOf s.data.toList)∧Below w.heap.size w w':=by
 have hP:=hid ((Tryz.strings_HasPrefix s ⟨#[40]⟩ w).mono (fun e w' (h:e=_∧w'=w)=>(⟨h.1,h.2.symm⟩:e=_∧w=w')))
 cases h0:Lib.hasPrefix s.data.toList [40]
 ·have hok:Hid (S.zd1 s.data.toList=false):=hid (by unfold S.zd1;rw[h0];rfl)
  rw[show (⟨#[40]⟩:ByteArray).data.toList=[40] from rfl,h0] at hP
  rw[hok.out]
  clear h0
  go_enter Tryz.func237,Tryz.ntmps237
  go_wp2_with fail
  refine hP.out.mono ?_
  rintro e w' ⟨rfl,rfl⟩
  go_wp2
  go_ret2
  exact ⟨⟨#[]⟩,rfl,hid (fun h=>by cases h),Below.refl _ _⟩
 ·have hpos:1≤s.size:=by
   rw[← S.length_data]
   cases hl:s.data.toList with
   | nil=>rw[hl] at h0;simp[Lib.hasPrefix] at h0
   | cons b r=>simp
  rw[show (⟨#[40]⟩:ByteArray).data.toList=[40] from rfl,h0] at hP
  obtain ⟨k,hk⟩:∃ k,S.zb1 [40,41,60,62] (s.data.toList.drop 1)=k:=⟨_,rfl⟩
  have hkl:1+k≤s.size:=by rw[← hk];have:=S.zho [40,41,60,62] (s.data.toList.drop 1);rw[List.length_drop,S.length_data] at this;omega
  have hA:Hid (Calls Tryz.prog 233 #[.string (s.extract 1 s.size),.string ⟨#[40,41,60,62]⟩] w fun e w'=>e = .returned (.int .i64 (k:Nat))∧w=w'):=hid (by
   have:=zgm (s.extract 1 s.size) ⟨#[40,41,60,62]⟩ w (by rw[ByteArray.size_extract];unfold maxLen;omega)
   rw[zbh,show (⟨#[40,41,60,62]⟩:ByteArray).data.toList=[40,41,60,62] from rfl,hk] at this
   exact this)
  have hQ:Hid (∀ wx,Calls Tryz.prog 161 #[.string (s.extract (1+k) s.size),.string ⟨#[41]⟩] wx fun e w'=>e = .returned (.bool (S.zd1 s.data.toList))∧wx=w'):=hid (fun wx=>by
   have:=Tryz.strings_HasPrefix (s.extract (1+k) s.size) ⟨#[41]⟩ wx
   rw[zbh,show (⟨#[41]⟩:ByteArray).data.toList=[41] from rfl] at this
   refine this.mono (fun e w' ⟨h1,h2⟩=>⟨?_,h2.symm⟩)
   rw[h1];unfold S.zd1;rw[h0,hk,Bool.true_and])
  have hfin:Hid ((s.extract 1 (1+k)).data.toList=S.addrOf s.data.toList):=hid (by
   rw[zcz];unfold S.addrOf;rw[hk,Nat.add_sub_cancel_left])
  have hkl':(1:Int)+(k:Int)≤(s.size:Int):=by omega
  have hton:((1:Int)+(k:Int)).toNat=1+k:=by omega
  have hz0:(0:Int)≤1+(k:Int):=by omega
  have hz1:(1:Int)≤1+(k:Int):=by omega
  generalize S.zd1 s.data.toList=ok at *
  clear hk h0
  go_enter Tryz.func237,Tryz.ntmps237
  go_wp2_with fail
  refine hP.out.mono ?_
  rintro e w' ⟨rfl,rfl⟩
  go_wp2_with fail
  refine hA.out.mono ?_
  rintro e w' ⟨rfl,rfl⟩
  go_wp2_with fail
  go_region_held3 (fun _=>True) (trivial) ((go_at_call 161;refine (hQ.out _).mono ?_;rintro e w' ⟨rfl,rfl⟩))
  go_wp2
  go_ret2
  exact ⟨s.extract 1 (1+k),rfl,hid (fun _=>hfin.out),(Below.refl _ _).drew⟩
set_option maxRecDepth 100000 in
set_option maxHeartbeats 4000000 in
theorem zn7 (s:ByteArray) (w:World) (hs:s.size≤1000000) (h0:0<s.size) :
  Calls Tryz.prog 200 #[.string s] w fun e w'=>∃ r:ByteArray,e = .returned (.tuple #[.string r,.bool (S.zd9 s.data.toList)])∧Hid (S.zd9 s.data.toList=true→r.data.toList=S.zcf s.data.toList)∧Below w.heap.size w w':=by
 have hIL:=hid (fun (b:UInt8) wx=>zjt b wx)
 obtain ⟨lt,hlt⟩:∃ lt,S.letters (s.data.toList.drop 1)=lt:=⟨_,rfl⟩
 have hltl:1+lt≤s.size:=by rw[← hlt];have:=S.zn0 (s.data.toList.drop 1);rw[List.length_drop,S.length_data] at this;omega
 have hcol:Hid (S.colon s.data.toList=1+lt):=hid (by unfold S.colon;rw[hlt])
 have hltH:=hid hlt
 have hP:Hid (∀ wx,Calls Tryz.prog 161 #[.string (s.extract (1+lt) s.size),.string ⟨#[58]⟩] wx fun e w'=>e = .returned (.bool (Lib.hasPrefix (s.data.toList.drop (1+lt)) [58]))∧wx=w'):=hid (fun wx=>by
  have:=Tryz.strings_HasPrefix (s.extract (1+lt) s.size) ⟨#[58]⟩ wx
  rw[zbh] at this
  exact this.mono (fun e w' ⟨h1,h2⟩=>⟨h1,h2.symm⟩))
 obtain ⟨pc,hpc⟩:∃ pc,Lib.hasPrefix (s.data.toList.drop (1+lt)) [58]=pc:=⟨_,rfl⟩
 rw[hpc] at hP
 have hbad:Hid (S.zn1 s.data.toList=(decide (lt<2) || decide (8<lt) || !pc)):=hid (by unfold S.zn1;rw[hlt,hcol.out,hpc])
 obtain ⟨k,hk⟩:∃ k,S.zb1 [60,62] (s.data.toList.drop (1+lt))=k:=⟨_,rfl⟩
 have hkl:1+lt+k≤s.size:=by rw[← hk];have:=S.zho [60,62] (s.data.toList.drop (1+lt));rw[List.length_drop,S.length_data] at this;omega
 have hend:Hid (S.zdc s.data.toList=1+lt+k):=hid (by unfold S.zdc;rw[hcol.out,hk])
 have hA:Hid (∀ wx,Calls Tryz.prog 233 #[.string (s.extract (1+lt) s.size),.string ⟨#[60,62]⟩] wx fun e w'=>e = .returned (.int .i64 (k:Nat))∧wx=w'):=hid (fun wx=>by
  have:=zgm (s.extract (1+lt) s.size) ⟨#[60,62]⟩ wx (by rw[ByteArray.size_extract];unfold maxLen;omega)
  rw[zbh,show (⟨#[60,62]⟩:ByteArray).data.toList=[60,62] from rfl,hk] at this
  exact this)
 have hQ:Hid (∀ wx,Calls Tryz.prog 161 #[.string (s.extract (1+lt+k) s.size),.string ⟨#[62]⟩] wx fun e w'=>e = .returned (.bool (Lib.hasPrefix (s.data.toList.drop (S.zdc s.data.toList)) [62]))∧wx=w'):=hid (fun wx=>by
  have:=Tryz.strings_HasPrefix (s.extract (1+lt+k) s.size) ⟨#[62]⟩ wx
  rw[zbh] at this
  rw[hend.out]
  exact this.mono (fun e w' ⟨h1,h2⟩=>⟨h1,h2.symm⟩))
 have hfin:Hid ((s.extract 1 (1+lt+k)).data.toList=S.zcf s.data.toList):=hid (by
  rw[zcz];unfold S.zcf;rw[hend.out])
 clear hlt hpc hk
 go_enter Tryz.func200,Tryz.ntmps200
 go_wp2
 go_loop [4] (fun i=>∃ j:Nat,1+j≤s.size∧i = .int .i64 ((1:Int)+(j:Int))∧Hid (∀ x,x<j→((s.data.toList.drop 1)[x]?.map S.letter)=some true)) (fun i=>s.size-(intOf i).toNat)
 case atStart=>exact ⟨0,by omega,rfl,hid (fun x hx=>by omega)⟩
 case round=>
  obtain ⟨j,hj,rfl,hall⟩:=hrel
  have hton:((1:Int)+(j:Int)).toNat=1+j:=by omega
  by_cases hjl:1+j<s.size
  ·have hji:(1:Int)+(j:Int)<(s.size:Int):=by omega
   have hg:=S.zaf s (1+j) hjl
   have hgH:Hid ((s.data.toList.drop 1)[j]?=some s[1+j]):=hid (by rw[List.getElem?_drop];exact hg)
   clear hg
   cases hL:S.letter s[1+j]
   ·have hLL:=hid (fun wx=>hIL.out s[1+j] wx)
    rw[hL] at hLL
    obtain rfl:j=lt:=by
     rw[← hltH.out];exact (S.zjo _ j hall.out (by rw[hgH.out,Option.map_some,hL];simp)).symm
    clear hL hall hgH
    by_cases hb1:j<2
    ·have hzb:Hid (S.zd9 s.data.toList=false):=hid (by unfold S.zd9;rw[hbad.out,decide_eq_true hb1];rfl)
     have hb1':(j:Int)<2:=by omega
     go_wp2_with (go_at_call 232;refine (hLL.out _).mono ?_;rintro e w' ⟨rfl,rfl⟩)
     go_ret2
     exact ⟨⟨#[]⟩,by rw[hzb.out];rfl,hid (fun h=>by rw[hzb.out] at h;cases h),Below.refl _ _⟩
    ·by_cases hb2:8<j
     ·have hzb:Hid (S.zd9 s.data.toList=false):=hid (by unfold S.zd9;rw[hbad.out,decide_eq_true hb2,Bool.or_true];rfl)
      have hb1':¬ (j:Int)<2:=by omega
      have hb2':(8:Int)<(j:Int):=by omega
      go_wp2_with (go_at_call 232;refine (hLL.out _).mono ?_;rintro e w' ⟨rfl,rfl⟩)
      go_ret2
      exact ⟨⟨#[]⟩,by rw[hzb.out];rfl,hid (fun h=>by rw[hzb.out] at h;cases h),Below.refl _ _⟩
     ·have hb1':¬ (j:Int)<2:=by omega
      have hb2':¬ (8:Int)<(j:Int):=by omega
      cases pc
      ·have hzb:Hid (S.zd9 s.data.toList=false):=hid (by unfold S.zd9;rw[hbad.out];simp)
       go_wp2_with (first|(go_at_call 232;refine (hLL.out _).mono ?_;rintro e w' ⟨rfl,rfl⟩)|(go_at_call 161;refine (hP.out _).mono ?_;rintro e w' ⟨rfl,rfl⟩))
       go_ret2
       exact ⟨⟨#[]⟩,by rw[hzb.out];rfl,hid (fun h=>by rw[hzb.out] at h;cases h),Below.refl _ _⟩
      ·have hzb:Hid (S.zd9 s.data.toList=Lib.hasPrefix (s.data.toList.drop (S.zdc s.data.toList)) [62]):=hid (by unfold S.zd9;rw[hbad.out,decide_eq_false hb1,decide_eq_false hb2];simp)
       rw[← hzb.out] at hQ
       have hz0:(0:Int)≤1+(j:Int)+(k:Int):=by omega
       have hz1:(1:Int)≤1+(j:Int)+(k:Int):=by omega
       have hz2:(1:Int)+(j:Int)+(k:Int)≤(s.size:Int):=by omega
       have hton3:((1:Int)+(j:Int)+(k:Int)).toNat=1+j+k:=by omega
       go_wp2_with (first|(go_at_call 232;refine (hLL.out _).mono ?_;rintro e w' ⟨rfl,rfl⟩)|(go_at_call 161;refine (hP.out _).mono ?_;rintro e w' ⟨rfl,rfl⟩))
       refine (hA.out _).mono ?_
       rintro e w' ⟨rfl,rfl⟩
       go_wp2_with fail
       go_region_held3 (fun _=>True) (trivial) ((go_at_call 161;refine (hQ.out _).mono ?_;rintro e w' ⟨rfl,rfl⟩))
       go_wp2
       go_ret2
       exact ⟨s.extract 1 (1+j+k),rfl,hid (fun _=>hfin.out),(Below.refl _ _).drew⟩
   ·have hLL:=hid (fun wx=>hIL.out s[1+j] wx)
    rw[hL] at hLL
    have hall2:Hid (∀ x,x<j+1→((s.data.toList.drop 1)[x]?.map S.letter)=some true):=hid (fun x hx=>by
     by_cases e:x=j
     ·subst e;rw[hgH.out,Option.map_some,hL]
     ·exact hall.out x (by omega))
    clear hL
    go_wp2_with (go_at_call 232;refine (hLL.out _).mono ?_;rintro e w' ⟨rfl,rfl⟩)
    go_round
    case rel=>exact ⟨j+1,by omega,by go_num,hall2⟩
    case measure=>simp[intOf];omega
  ·obtain rfl:j=lt:=by
    rw[← hltH.out];exact (S.zjo _ j hall.out (by rw[List.getElem?_eq_none (by rw[List.length_drop,S.length_data];omega)];simp)).symm
   have hjl':¬ (1:Int)+(j:Int)<(s.size:Int):=by omega
   clear hall
   by_cases hb1:j<2
   ·have hzb:Hid (S.zd9 s.data.toList=false):=hid (by unfold S.zd9;rw[hbad.out,decide_eq_true hb1];rfl)
    have hb1':(j:Int)<2:=by omega
    go_wp2
    go_ret2
    exact ⟨⟨#[]⟩,by rw[hzb.out];rfl,hid (fun h=>by rw[hzb.out] at h;cases h),Below.refl _ _⟩
   ·by_cases hb2:8<j
    ·have hzb:Hid (S.zd9 s.data.toList=false):=hid (by unfold S.zd9;rw[hbad.out,decide_eq_true hb2,Bool.or_true];rfl)
     have hb1':¬ (j:Int)<2:=by omega
     have hb2':(8:Int)<(j:Int):=by omega
     go_wp2
     go_ret2
     exact ⟨⟨#[]⟩,by rw[hzb.out];rfl,hid (fun h=>by rw[hzb.out] at h;cases h),Below.refl _ _⟩
    ·have hb1':¬ (j:Int)<2:=by omega
     have hb2':¬ (8:Int)<(j:Int):=by omega
     cases pc
     ·have hzb:Hid (S.zd9 s.data.toList=false):=hid (by unfold S.zd9;rw[hbad.out];simp)
      go_wp2_with (go_at_call 161;refine (hP.out _).mono ?_;rintro e w' ⟨rfl,rfl⟩)
      go_ret2
      exact ⟨⟨#[]⟩,by rw[hzb.out];rfl,hid (fun h=>by rw[hzb.out] at h;cases h),Below.refl _ _⟩
     ·have hzb:Hid (S.zd9 s.data.toList=Lib.hasPrefix (s.data.toList.drop (S.zdc s.data.toList)) [62]):=hid (by unfold S.zd9;rw[hbad.out,decide_eq_false hb1,decide_eq_false hb2];simp)
      rw[← hzb.out] at hQ
      have hz0:(0:Int)≤1+(j:Int)+(k:Int):=by omega
      have hz1:(1:Int)≤1+(j:Int)+(k:Int):=by omega
      have hz2:(1:Int)+(j:Int)+(k:Int)≤(s.size:Int):=by omega
      have hton3:((1:Int)+(j:Int)+(k:Int)).toNat=1+j+k:=by omega
      go_wp2_with (go_at_call 161;refine (hP.out _).mono ?_;rintro e w' ⟨rfl,rfl⟩)
      refine (hA.out _).mono ?_
      rintro e w' ⟨rfl,rfl⟩
      go_wp2_with fail
      go_region_held3 (fun _=>True) (trivial) ((go_at_call 161;refine (hQ.out _).mono ?_;rintro e w' ⟨rfl,rfl⟩))
      go_wp2
      go_ret2
      exact ⟨s.extract 1 (1+j+k),rfl,hid (fun _=>hfin.out),(Below.refl _ _).drew⟩
namespace S
theorem zny (size:Nat) (f:Nat) (l:List UInt8) (k K:Nat) (h:zbr size f l k=some K):k≤K∧K+size≤k+l.length:=by
 induction f generalizing l k with
 | zero=>simp[zbr] at h
 | succ f ih=>
  cases l with
  | nil=>simp[zbr] at h
  | cons b r=>
   simp only[zbr] at h
   split at h
   ·split at h
    ·rename_i hc;cases h;have:=zd0 96 (b::r);omega
    ·have:=ih _ _ h
     have hl:=zd0 96 (b::r)
     rw[List.length_drop] at this;omega
   ·have:=ih _ _ h;simp only[List.length_cons];omega
theorem zgv (l:List UInt8) (size K:Nat) (hs:size≤l.length) (h:ze6 l size=some K):size≤K∧K+size≤l.length:=by
 have:=zny size _ _ _ _ h
 rw[List.length_drop] at this;omega
def zc9 (l:List UInt8):List UInt8:=
 let r:=Lib.replaceAll l [10] [32]
 if (Lib.hasPrefix r [32] && Lib.hasSuffix r [32])=true∧Lib.trimB r 32≠[] then (r.drop 1).take (r.length-2) else r
theorem zju (k:Nat) (l:List UInt8):(Lib.replaceK [10] [32] k l).length=l.length:=by
 induction k generalizing l with
 | zero=>rfl
 | succ k ih=>
  unfold Lib.replaceK
  split
  ·rfl
  ·rename_i h
   have hge:=Lib.indexByte_ge l 10
   rw[Lib.index_one] at h ⊢
   have hne:¬ Lib.indexByte l 10 = -1:=by simpa using h
   obtain ⟨o,ho⟩:∃ o:Nat,Lib.indexByte l 10=o:=⟨(Lib.indexByte l 10).toNat,by omega⟩
   have hlt:=(List.getElem?_eq_some_iff.1 (Lib.indexByte_some ho).1).1
   simp only[List.length_append,List.length_take,ih,List.length_drop,List.length_cons,List.length_nil]
   omega
theorem zhi (l:List UInt8):(Lib.replaceAll l [10] [32]).length=l.length:=by
 unfold Lib.replaceAll Lib.replace
 rw[if_neg (by decide)];exact zju _ _
end S
set_option maxRecDepth 100000 in
set_option maxHeartbeats 4000000 in
theorem zlt (s:ByteArray) (size:Nat) (w:World) (hs:s.size≤1000000) (hz:size≤s.size) (hz1:1≤size) (v:Option Nat) (hv:S.ze6 s.data.toList size=v) :
  Calls Tryz.prog 198 #[.string s,.int .i64 (size:Nat)] w fun e w'=>e = .returned (.tuple #[.string ((v.map (fun k=>s.extract size k)).getD ⟨#[]⟩),.bool v.isSome])∧w=w':=by
 have hvH:=hid hv
 clear hv
 go_enter Tryz.func198,Tryz.ntmps198
 go_wp2
 go_loop [6,7] (fun i _=>∃ k f:Nat,size≤k∧k≤s.size∧i = .int .i64 k∧s.size-k<f∧Hid (S.zbr size f (s.data.toList.drop k) k=v)) (fun i _=>s.size-(intOf i).toNat)
 case atStart=>exact ⟨size,s.size+1,Nat.le_refl _,hz,rfl,by omega,hid (by have:=hvH.out;unfold S.ze6 at this;rw[S.length_data] at this;exact this)⟩
 case round=>
  obtain ⟨k,f,hsk,hk,rfl,hf,hsp⟩:=hrel
  obtain ⟨f',rfl⟩:∃ f',f=f' + 1:=⟨f-1,by omega⟩
  by_cases hlt:k<s.size
  ·have hg:=S.zaf s k hlt
   have hdr:Hid (s.data.toList.drop k=s[k]::s.data.toList.drop (k+1)):=hid (by
    obtain ⟨hl',hx'⟩:=List.getElem?_eq_some_iff.1 hg
    rw[List.drop_eq_getElem_cons hl',hx'])
   clear hg
   by_cases hx:s[k]=96
   ·have hxn:s[k].toNat=96:=by rw[hx];rfl
    have hx0:(s.extract k s.size).data.toList=s[k]::s.data.toList.drop (k+1):=by rw[zbh];exact hdr.out
    have hxs:(s.extract k s.size).size=s.size-k:=by rw[ByteArray.size_extract];omega
    have hpos:0<(s.extract k s.size).size:=by omega
    have he0:(s.extract k s.size)[0]=96:=by
     have:=S.zaf (s.extract k s.size) 0 hpos
     rw[hx0] at this;simp at this;rw[← this];exact hx
    obtain ⟨g,hgv⟩:∃ g,S.cnt 96 (s.data.toList.drop k)=g:=⟨_,rfl⟩
    have hCS:Hid (Calls Tryz.prog 153 #[.string (s.extract k s.size)] w fun e w'=>e = .returned (.int .i64 (g:Nat))∧w=w'):=hid (by
     have:=zew (s.extract k s.size) w (by rw[hxs];unfold maxLen;omega) hpos (by rw[he0];decide)
     have e:S.same (s.extract k s.size).data.toList=g:=by rw[← hgv,zbh,hdr.out,hx];rfl
     rw[e] at this;exact this)
    have hgl:k+g≤s.size:=by rw[← hgv];have:=S.zd0 96 (s.data.toList.drop k);rw[List.length_drop,S.length_data] at this;omega
    have hg1:1≤g:=by rw[← hgv,hdr.out,hx];simp[S.cnt]
    have hstep:Hid ((if g=size then some k else S.zbr size f' (s.data.toList.drop (k+g)) (k+g))=v):=hid (by
     have:=hsp.out
     rw[hdr.out] at this
     simp only[S.zbr] at this
     rw[if_pos hx,← hdr.out,hgv,List.drop_drop] at this
     exact this)
    clear hx hx0 hxs hpos he0 hgv hsp
    by_cases hgs:g=size
    ·subst hgs
     have hvk:Hid (v=some k):=hid (by rw[← hstep.out,if_pos rfl])
     clear hstep
     go_wp2_with (go_at_call 153;refine hCS.out.mono ?_;rintro e w' ⟨rfl,rfl⟩)
     go_ret2
     exact ⟨by rw[hvk.out];rfl,rfl⟩
    ·have hgb:(((g:Nat):Int) == ((size:Nat):Int))=false:=by rw[beq_eq_false_iff_ne];omega
     have hst2:Hid (S.zbr size f' (s.data.toList.drop (k+g)) (k+g)=v):=hid (by rw[← hstep.out,if_neg hgs])
     clear hstep hgs
     go_wp2_with (go_at_call 153;refine hCS.out.mono ?_;rintro e w' ⟨rfl,rfl⟩)
     go_round
     case rel=>exact ⟨k+g,f',by omega,by omega,by go_num,by omega,hst2⟩
     case measure=>simp[intOf];omega
   ·have hxb:(((s[k].toNat:Nat):Int) == 96)=false:=by
     rw[beq_eq_false_iff_ne];intro e;exact hx (UInt8.toNat_inj.1 (by show s[k].toNat=96;omega))
    have hst2:Hid (S.zbr size f' (s.data.toList.drop (k+1)) (k+1)=v):=hid (by
     have:=hsp.out
     rw[hdr.out] at this
     simp only[S.zbr] at this
     rw[if_neg hx] at this
     exact this)
    clear hx hsp
    go_wp2
    go_round
    case rel=>exact ⟨k+1,f',by omega,by omega,by go_num,by omega,hst2⟩
    case measure=>simp[intOf];omega
  ·have hvn:Hid (v=none):=hid (by
    have:=hsp.out
    rw[List.drop_eq_nil_of_le (by rw[S.length_data];omega)] at this
    rw[← this];rfl)
   clear hsp
   go_wp2
   go_ret2
   exact ⟨by rw[hvn.out];rfl,rfl⟩
theorem zjz {l:List UInt8} (h:Lib.trimB l 32≠[]) (h1:Lib.hasPrefix l [32]=true):2≤l.length:=by
 cases l with
 | nil=>simp[Lib.hasPrefix] at h1
 | cons b r=>cases r with
  | nil=>
   exfalso;apply h
   have:b=32:=by simp[Lib.hasPrefix] at h1;exact h1.symm
   subst this;decide
  | cons c r=>simp
set_option maxRecDepth 100000 in
set_option maxHeartbeats 4000000 in
theorem zpj (s:ByteArray) (w:World) (hs:s.size≤1000000) (henv:Env w) :
  Calls Tryz.prog 199 #[.string s] w fun e w'=>∃ r:ByteArray,e = .returned (.string r)∧Hid (r.data.toList=S.zc9 s.data.toList)∧Below w.heap.size w w':=by
 obtain ⟨_,⟨mx,hmx⟩,_⟩:=henv
 obtain ⟨R,hR⟩:∃ R:ByteArray,R=⟨(Lib.replaceAll s.data.toList [10] [32]).toArray⟩:=⟨_,rfl⟩
 have hRd:R.data.toList=Lib.replaceAll s.data.toList [10] [32]:=by rw[hR]
 have hRs:R.size=s.size:=by rw[← S.length_data,hRd,S.zhi,S.length_data]
 have hcb:Lib.countB s ⟨#[10]⟩≤s.size:=by
  show Lib.count s.data.toList [10]≤_
  rw[Lib.count_one,← S.length_data];exact List.count_le_length
 have hRA:Hid (Calls Tryz.prog 231 #[.string s,.string ⟨#[10]⟩,.string ⟨#[32]⟩] w fun e w'=>e = .returned (.string R)∧Below w.heap.size w w'):=hid (by
  have:=Tryz.strings_ReplaceAll s ⟨#[10]⟩ ⟨#[32]⟩ mx w (by omega) hmx (by decide) (by
   have e:(⟨#[32]⟩:ByteArray).size=1:=rfl
   rw[e];omega)
  rw[hR];exact this)
 have hHP:=hid (fun wx=>(Tryz.strings_HasPrefix R ⟨#[32]⟩ wx).mono (fun e w' (h:e=_∧w'=wx)=>(⟨h.1,h.2.symm⟩:e=_∧wx=w')))
 have hHS:=hid (fun wx=>(Tryz.strings_HasSuffix R ⟨#[32]⟩ wx (by omega)).mono (fun e w' (h:e=_∧w'=wx)=>(⟨h.1,h.2.symm⟩:e=_∧wx=w')))
 have hTr:Hid (∀ wx,Calls Tryz.prog 172 #[.string R,.string ⟨#[32]⟩] wx fun e w'=>e = .returned (.string ⟨(Lib.trimB R.data.toList 32).toArray⟩)∧Below wx.heap.size wx w'):=hid (fun wx=>(Tryz.strings_Trim_one R 32 (by decide) wx (by omega)).mono (fun e w' ⟨h1,h2⟩=>⟨h1,by rcases h2 with rfl|rfl;exact Below.refl _ _;exact (Below.refl _ _).drew⟩))
 have hsp:Hid (S.zc9 s.data.toList=if (Lib.hasPrefix R.data.toList [32] && Lib.hasSuffix R.data.toList [32])=true∧Lib.trimB R.data.toList 32≠[] then (R.data.toList.drop 1).take (R.data.toList.length-2) else R.data.toList):=hid (by unfold S.zc9;rw[hRd])
 rw[show (⟨#[32]⟩:ByteArray).data.toList=[32] from rfl] at hHP hHS
 clear hR hRd hcb hmx
 have hnil:=hid (fun h h1=>zjz (l:=R.data.toList) h h1)
 cases hp:Lib.hasPrefix R.data.toList [32]
 ·rw[hp] at hHP
  have hfin:Hid (S.zc9 s.data.toList=R.data.toList):=hid (by rw[hsp.out,hp];simp)
  clear hp
  go_enter Tryz.func199,Tryz.ntmps199
  go_wp2_with fail
  refine hRA.out.mono ?_
  rintro e w1 ⟨rfl,hb1⟩
  have hb1H:=hid hb1
  clear hb1
  go_wp2_with (go_at_call 161;refine (hHP.out _).mono ?_;rintro e w' ⟨rfl,rfl⟩)
  go_ret
  exact ⟨R,rfl,hid hfin.out.symm,hb1H.out⟩
 ·rw[hp] at hHP
  cases hq:Lib.hasSuffix R.data.toList [32]
  ·rw[hq] at hHS
   have hfin:Hid (S.zc9 s.data.toList=R.data.toList):=hid (by rw[hsp.out,hq];simp)
   clear hp hq
   go_enter Tryz.func199,Tryz.ntmps199
   go_wp2_with fail
   refine hRA.out.mono ?_
   rintro e w1 ⟨rfl,hb1⟩
   have hb1H:=hid hb1
   clear hb1
   go_wp2_with (first|(go_at_call 161;refine (hHP.out _).mono ?_;rintro e w' ⟨rfl,rfl⟩)|(go_at_call 174;refine (hHS.out _).mono ?_;rintro e w' ⟨rfl,rfl⟩))
   go_ret
   exact ⟨R,rfl,hid hfin.out.symm,hb1H.out⟩
  ·rw[hq] at hHS
   by_cases ht:Lib.trimB R.data.toList 32=[]
   ·rw[ht] at hTr
    have hfin:Hid (S.zc9 s.data.toList=R.data.toList):=hid (by rw[hsp.out,ht];simp)
    clear hp hq ht
    go_enter Tryz.func199,Tryz.ntmps199
    go_wp2_with fail
    refine hRA.out.mono ?_
    rintro e w1 ⟨rfl,hb1⟩
    have hb1H:=hid hb1
    clear hb1
    go_wp2_with (first|(go_at_call 161;refine (hHP.out _).mono ?_;rintro e w' ⟨rfl,rfl⟩)|(go_at_call 174;refine (hHS.out _).mono ?_;rintro e w' ⟨rfl,rfl⟩))
    refine (hTr.out _).mono ?_
    rintro e w2 ⟨rfl,hb2⟩
    have hb2H:=hid hb2
    clear hb2
    go_wp2
    go_ret
    exact ⟨R,rfl,hid hfin.out.symm,hb1H.out.trans (hb2H.out.mono hb1H.out.size)⟩
   ·have hlen2:2≤R.size:=by rw[← S.length_data];exact hnil.out ht hp
    have hfin:Hid (S.zc9 s.data.toList=(R.data.toList.drop 1).take (R.data.toList.length-2)):=hid (by rw[hsp.out,hp,hq,if_pos ⟨rfl,ht⟩])
    obtain ⟨T,hT⟩:∃ T:ByteArray,T=⟨(Lib.trimB R.data.toList 32).toArray⟩:=⟨_,rfl⟩
    have hTne:0<T.size:=by rw[hT,S.zgi];exact List.length_pos_iff.2 ht
    have hTn:=S.zbl T hTne
    have hTe:=S.zb2 T hTne
    rw[← hT] at hTr
    clear hp hq ht hT
    have hsub:(1:Int)≤(R.size:Int)-1:=by omega
    have hton:((R.size:Int)-1).toNat=R.size-1:=by omega
    go_enter Tryz.func199,Tryz.ntmps199
    go_wp2_with fail
    refine hRA.out.mono ?_
    rintro e w1 ⟨rfl,hb1⟩
    have hb1H:=hid hb1
    clear hb1
    go_wp2_with (first|(go_at_call 161;refine (hHP.out _).mono ?_;rintro e w' ⟨rfl,rfl⟩)|(go_at_call 174;refine (hHS.out _).mono ?_;rintro e w' ⟨rfl,rfl⟩))
    refine (hTr.out _).mono ?_
    rintro e w2 ⟨rfl,hb2⟩
    have hb2H:=hid hb2
    clear hb2
    go_wp2
    go_ret
    refine ⟨R.extract 1 (s.size-1),rfl,hid ?_,hb1H.out.trans (hb2H.out.mono hb1H.out.size)⟩
    rw[hfin.out,zcz,S.length_data,hRs];congr 1
end Go.Proofs.YtlojgpkajkedeaaGreatDoor
