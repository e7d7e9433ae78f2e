import Derived.Test.YtlojgpkajkedeaaGreatDoorMRA
import Derived.Deep.DeepCutAuto
import Derived.Deep.RegionHeld3
namespace Go.Proofs.YtlojgpkajkedeaaGreatDoor
open Go.RowKit
namespace S
theorem zgr (l:List UInt8) (c:UInt8) (t:List UInt8) (h:shallow l=c::t):l.drop (indent l)=c::t∧indent l≤3∧c≠32:=by
 by_cases h4:4≤indent l
 ·rw[zgg l h4] at h;cases h
 ·rw[zgy l h4] at h
  refine ⟨h,by omega,?_⟩
  intro e
  subst e
  have h1:cnt 32 (l.drop (cnt 32 l))=0:=by
   clear h h4
   induction l with
   | nil=>rfl
   | cons x r ih=>
    by_cases hx:x=32
    ·subst hx;simpa [cnt] using ih
    ·simp[cnt,hx]
  rw[show indent l=cnt 32 l from rfl] at h
  rw[h] at h1
  simp[cnt] at h1
theorem zst (l:List UInt8) (c:UInt8) (hc:c≠32):l.count c+l.count 32=l.length↔∀ x∈l,x=c∨x=32:=by
 induction l with
 | nil=>simp
 | cons x r ih=>
  have h1:=List.count_le_length (a:=c) (l:=r)
  have h2:r.count c+r.count 32≤r.length:=by
   clear ih
   induction r with
   | nil=>simp
   | cons y t ih2=>
    have:=ih2 (List.count_le_length)
    simp only[List.count_cons,List.length_cons]
    by_cases e1:y=c
    ·subst e1;have:(y == 32)=false:=by simpa using hc
     simp[this];omega
    ·have:(y == c)=false:=by simpa using e1
     simp[this];split <;> omega
  simp only[List.count_cons,List.length_cons,List.mem_cons,forall_eq_or_imp]
  by_cases e1:x=c
  ·subst e1
   have:(x == 32)=false:=by simpa using hc
   simp[this]
   rw[← ih];omega
  ·by_cases e2:x=32
   ·subst e2
    have:((32:UInt8) == c)=false:=by simpa using e1
    simp[this]
    rw[← ih];omega
   ·have k1:(x == c)=false:=by simpa using e1
    have k2:(x == 32)=false:=by simpa using e2
    simp[k1,k2,e1,e2]
    omega
end S
set_option maxHeartbeats 2000000 in
theorem zks (s:ByteArray) (w:World) (hs:s.size≤1000000) :
  Calls Tryz.prog 89 #[.string s] w fun e w'=>e = .returned (.bool (S.zbu s.data.toList))∧w'=w:=by
 have hI:=hid (zqj s w hs)
 have hR:=hid (zfn s w hs)
 cases hsh:S.shallow s.data.toList with
 | nil=>
  have hE:Hid (S.zbu s.data.toList=false):=hid (by unfold S.zbu;rw[hsh])
  rw[hsh] at hI
  rw[hE.out]
  clear hsh
  go_enter Tryz.func89,Tryz.ntmps89
  go_wp2_with fail
  refine hI.out.mono ?_
  rintro e w' ⟨rfl,rfl⟩
  go_wp2
  go_ret
  exact ⟨rfl,rfl⟩
 | cons c t=>
  have hsc:=S.zgr _ c t hsh
  rw[hsc.1] at hR
  rw[hsh] at hI
  have hlen:(c::t).length≤s.size:=by rw[← hsc.1,List.length_drop,S.length_data];omega
  obtain ⟨r,hr⟩:∃ r,S.B (c::t)=r:=⟨_,rfl⟩
  rw[hr] at hR
  have hrd:r.data.toList=c::t:=by rw[← hr,S.zcn]
  have hrs:r.size=t.length+1:=by rw[← hr,S.zbc];rfl
  have hr0:r.data.toList[0]?=some c:=by rw[hrd];rfl
  have hz:0<r.size:=by omega
  have hg0:r[0]=c:=by have:=S.zaf r 0 hz;rw[hr0] at this;exact (Option.some.inj this).symm
  have hcn:c≠32:=hsc.2.2
  simp only[List.length_cons] at hlen
  obtain ⟨R,hRu⟩:∃ R,S.zbu s.data.toList=R:=⟨_,rfl⟩
  have hRule:R=((decide (c=42) || decide (c=45) || decide (c=95)) && (decide (3≤(c::t).count c) && decide ((c::t).count c+(c::t).count 32=(c::t).length))):=by rw[← hRu];unfold S.zbu;rw[hsh]
  rw[hRu]
  have hRuleH:=hid hRule
  have hrdH:=hid hrd
  have hg0H:=hid hg0
  have hcnH:=hid hcn
  clear hsh hsc hr hrd hr0 hRu hRule
  by_cases hm:c=42∨c=45∨c=95
  ·have hcount:Hid (R=(decide (3≤(c::t).count c) && decide ((c::t).count c+(c::t).count 32=(c::t).length))):=hid (by
    rw[hRuleH.out];rcases hm with h|h|h <;> simp[h])
   clear hRuleH
   go_enter Tryz.func89,Tryz.ntmps89
   go_wp2_with fail
   refine hI.out.mono ?_
   rintro e w' ⟨rfl,rfl⟩
   go_wp2_with fail
   refine hR.out.mono ?_
   rintro e w' ⟨rfl,rfl⟩
   go_upto_region 6 with fail
   go_cut [25] (fun s25 wx=>s25 = .bool false∧w'=wx)
   case first=>
    rcases hm with h|h|h <;> subst h
    all_goals (go_wp2;go_meet;exact ⟨rfl,rfl⟩)
   case rest=>
   obtain ⟨rfl,rfl⟩:=hcut
   clear hg0
   go_wp2
   go_loop [6,7] (fun n i=>∃ k:Nat,k≤r.size∧i = .int .i64 k∧n = .int .i64 ((r.data.toList.take k).count c:Nat)∧∀ x∈r.data.toList.take k,x=c∨x=32) (fun _ i=>r.size-(intOf i).toNat)
   case atStart=>exact ⟨0,Nat.zero_le _,rfl,by simp,by simp⟩
   case round=>
    obtain ⟨k,hk,rfl,rfl,hall⟩:=hrel
    have hcl:(r.data.toList.take k).count c≤k:=Nat.le_trans List.count_le_length (by rw[List.length_take];omega)
    by_cases hlt:k<r.size
    ·have hg:r.data.toList[k]?=some r[k]:=S.zaf r k hlt
     have htk:r.data.toList.take (k+1)=r.data.toList.take k++[r[k]]:=by rw[List.take_add_one,hg];rfl
     have hI2:(k:Int)<(r.size:Int):=by omega
     by_cases h1:r[k]=c
     ·have q1:((r[k].toNat:Int) == (c.toNat:Int))=true:=by simp[h1]
      have n1:((r[k].toNat:Int) != (c.toNat:Int))=false:=by simp[h1]
      have hn:Hid ((r.data.toList.take (k+1)).count c=(r.data.toList.take k).count c+1∧∀ x∈r.data.toList.take (k+1),x=c∨x=32):=hid (by
       rw[htk]
       refine ⟨by rw[List.count_append,h1];simp,?_⟩
       intro x hx
       rcases List.mem_append.1 hx with hx|hx
       ·exact hall x hx
       ·simp at hx;rw[hx];exact .inl h1)
      obtain ⟨m,hmm⟩:∃ m,(r.data.toList.take k).count c=m:=⟨_,rfl⟩
      rw[hmm] at hcl hn ⊢
      clear hg hall htk hmm h1
      go_wp2
      exact ⟨⟨k+1,by omega,by go_num,by rw[hn.out.1];go_num,hn.out.2⟩,by simp[intOf];omega⟩
     ·have q1:((r[k].toNat:Int) == (c.toNat:Int))=false:=by
       rw[beq_eq_false_iff_ne];intro h;exact h1 (UInt8.toNat_inj.1 (by omega))
      have n1:((r[k].toNat:Int) != (c.toNat:Int))=true:=by rw[bne,q1];rfl
      by_cases h2:r[k]=32
      ·have q2:((r[k].toNat:Int) == 32)=true:=by simp[h2]
       have n2:((r[k].toNat:Int) != 32)=false:=by simp[h2]
       have hn:Hid ((r.data.toList.take (k+1)).count c=(r.data.toList.take k).count c∧∀ x∈r.data.toList.take (k+1),x=c∨x=32):=hid (by
        rw[htk]
        refine ⟨by rw[List.count_append,List.count_singleton];simp[h1],?_⟩
        intro x hx
        rcases List.mem_append.1 hx with hx|hx
        ·exact hall x hx
        ·simp at hx;rw[hx];exact .inr h2)
       obtain ⟨m,hmm⟩:∃ m,(r.data.toList.take k).count c=m:=⟨_,rfl⟩
       rw[hmm] at hcl hn ⊢
       clear hg hall htk hmm h1 h2
       go_wp2
       exact ⟨⟨k+1,by omega,by go_num,by rw[hn.out.1],hn.out.2⟩,by simp[intOf];omega⟩
      ·have q2:((r[k].toNat:Int) == 32)=false:=by
        rw[beq_eq_false_iff_ne];intro h;exact h2 (UInt8.toNat_inj.1 (by show r[k].toNat=32;omega))
       have n2:((r[k].toNat:Int) != 32)=true:=by rw[bne,q2];rfl
       have hfin:Hid (R=false):=hid (by
        rw[hcount.out]
        have:¬ ((c::t).count c+(c::t).count 32=(c::t).length):=by
         rw[S.zst _ _ hcnH.out]
         intro h
         rcases h r[k] (by rw[← hrdH.out];exact List.mem_of_getElem? hg) with h|h
         ·exact h1 h
         ·exact h2 h
        rw[decide_eq_false this,Bool.and_false])
       clear hg hall htk h1 h2
       go_wp2
       go_ret
       exact ⟨zaw hfin.out.symm,rfl⟩
    ·have hke:k=r.size:=by omega
     subst hke
     have hfin:Hid (decide ((3:Int)≤((r.data.toList.take r.size).count c:Nat))=R):=hid (by
      have e:r.data.toList.take r.size=r.data.toList:=List.take_of_length_le (by rw[S.length_data];omega)
      rw[e] at hall ⊢
      rw[hcount.out,← hrdH.out,decide_eq_true ((S.zst _ _ hcnH.out).2 hall),Bool.and_true,decide_eq_decide]
      omega)
     obtain ⟨m,hmm⟩:∃ m,(r.data.toList.take r.size).count c=m:=⟨_,rfl⟩
     rw[hmm] at hcl hfin ⊢
     clear hall hmm
     go_wp2
     go_ret
     exact ⟨zaw hfin.out,rfl⟩
  ·have hfin:Hid (R=false):=hid (by
    rw[hRuleH.out]
    have e1:c≠42:=fun h=>hm (.inl h)
    have e2:c≠45:=fun h=>hm (.inr (.inl h))
    have e3:c≠95:=fun h=>hm (.inr (.inr h))
    simp[e1,e2,e3])
   have e1:((c.toNat:Int) != 42)=true:=by rw[bne_iff_ne];intro h;exact hm (.inl (UInt8.toNat_inj.1 (by show c.toNat=42;omega)))
   have e2:((c.toNat:Int) != 45)=true:=by rw[bne_iff_ne];intro h;exact hm (.inr (.inl (UInt8.toNat_inj.1 (by show c.toNat=45;omega))))
   have e3:((c.toNat:Int) != 95)=true:=by rw[bne_iff_ne];intro h;exact hm (.inr (.inr (UInt8.toNat_inj.1 (by show c.toNat=95;omega))))
   rw[hfin.out]
   clear hRuleH hm
   go_enter Tryz.func89,Tryz.ntmps89
   go_wp2_with fail
   refine hI.out.mono ?_
   rintro e w' ⟨rfl,rfl⟩
   go_wp2_with fail
   refine hR.out.mono ?_
   rintro e w' ⟨rfl,rfl⟩
   go_wp2
   go_ret
   exact ⟨rfl,rfl⟩
theorem zr6 (s:ByteArray) (hs:s.size≤1000000) (c:UInt8) (t:List UInt8) (hsh:S.shallow s.data.toList=c::t) :
  ∃ r:ByteArray,r.data.toList=c::t∧r.size=t.length+1∧(∀ h:0<r.size,r[0]=c)∧t.length+1≤s.size∧c≠32 ∧
   (∀ w,Calls Tryz.prog 127 #[.string s] w fun e w'=>e = .returned (.bool true)∧w=w')∧(∀ w,Calls Tryz.prog 128 #[.string s] w fun e w'=>e = .returned (.string r)∧w=w'):=by
 have hsc:=S.zgr _ c t hsh
 refine ⟨S.B (c::t),S.zcn _,by rw[S.zbc];rfl,?_,?_,hsc.2.2,?_,?_⟩
 ·intro h
  have h1:=S.zaf (S.B (c::t)) 0 h
  rw[S.zcn] at h1
  exact (Option.some.inj h1).symm
 ·have:(c::t).length≤s.size:=by rw[← hsc.1,List.length_drop,S.length_data];omega
  simpa using this
 ·intro w
  have:=zqj s w hs
  rw[hsh] at this
  exact this.mono (fun e w' ⟨h1,h2⟩=>⟨h1,h2.symm⟩)
 ·intro w
  have:=zfn s w hs
  rw[hsc.1] at this
  exact this.mono (fun e w' ⟨h1,h2⟩=>⟨h1,h2.symm⟩)
theorem ztg (s:ByteArray) (hs:s.size≤1000000) (hsh:S.shallow s.data.toList=[]) (w:World):Calls Tryz.prog 127 #[.string s] w fun e w'=>e = .returned (.bool false)∧w=w':=by
 have:=zqj s w hs
 rw[hsh] at this
 exact this.mono (fun e w' ⟨h1,h2⟩=>⟨h1,h2.symm⟩)
set_option maxHeartbeats 1000000 in
theorem zfr (s:ByteArray) (w:World) (hs:s.size≤1000000) :
  Calls Tryz.prog 92 #[.string s] w fun e w'=>e = .returned (.bool (S.zar s.data.toList))∧w'=w:=by
 cases hsh:S.shallow s.data.toList with
 | nil=>
  have hE:S.zar s.data.toList=false:=by unfold S.zar;rw[hsh];rfl
  have hI:=hid (ztg s hs hsh w)
  rw[hE]
  clear hE hsh
  go_enter Tryz.func92,Tryz.ntmps92
  go_wp2_with fail
  refine hI.out.mono ?_
  rintro e w' ⟨rfl,rfl⟩
  go_wp2
  go_ret
  exact ⟨rfl,rfl⟩
 | cons c t=>
  obtain ⟨r,hrd,hrs,hg,hle,hc,hI,hR⟩:=zr6 s hs c t hsh
  have hz:0<r.size:=by omega
  have hg0:=hg hz
  have hE:Hid (S.zar s.data.toList=((c.toNat:Int) == 62)):=hid (by
   unfold S.zar;rw[hsh]
   rw[Bool.eq_iff_iff,beq_iff_eq]
   constructor
   ·intro h;simp[Lib.hasPrefix] at h;subst h;rfl
   ·intro h
    have:c=62:=UInt8.toNat_inj.1 (by show c.toNat=62;omega)
    subst this;rfl)
  have hIH:=hid (hI w)
  have hRH:=hid (hR w)
  clear hsh hrd hg hI hR
  go_enter Tryz.func92,Tryz.ntmps92
  go_wp2_with fail
  refine hIH.out.mono ?_
  rintro e w' ⟨rfl,rfl⟩
  go_wp2_with fail
  refine hRH.out.mono ?_
  rintro e w' ⟨rfl,rfl⟩
  go_wp2
  go_ret
  exact ⟨zaw hE.out.symm,rfl⟩
set_option maxHeartbeats 1000000 in
theorem zr9 (s:ByteArray) (c:UInt8) (n:Nat) (w:World) (hs:s.size≤1000000) (hn:1≤n) (hn2:n≤1000000) :
  Calls Tryz.prog 141 #[.string s,.int .u8 (c.toNat:Int),.int .i64 (n:Nat)] w fun e w'=>e = .returned (.bool (S.zc7 c n s.data.toList))∧w'=w:=by
 cases hsh:S.shallow s.data.toList with
 | nil=>
  have hE:S.zc7 c n s.data.toList=false:=by
   unfold S.zc7;rw[hsh];simp[S.cnt];omega
  have hI:=hid (ztg s hs hsh w)
  rw[hE]
  clear hE hsh
  go_enter Tryz.func141,Tryz.ntmps141
  go_wp2_with fail
  refine hI.out.mono ?_
  rintro e w' ⟨rfl,rfl⟩
  go_wp2
  go_ret
  exact ⟨rfl,rfl⟩
 | cons d t=>
  obtain ⟨r,hrd,hrs,hg,hle,hc,hI,hR⟩:=zr6 s hs d t hsh
  have hM:=zdi r 0 c w (by omega) (by omega)
  rw[List.drop_zero] at hM
  have hkl:=S.zd0 c r.data.toList
  rw[S.length_data] at hkl
  have hE:S.zc7 c n s.data.toList=(decide ((n:Int)≤(S.cnt c r.data.toList:Int)) && S.blank (r.data.toList.drop (S.cnt c r.data.toList))):=by
   unfold S.zc7;rw[hsh,hrd]
  obtain ⟨k,hk⟩:∃ k,S.cnt c r.data.toList=k:=⟨_,rfl⟩
  rw[hk] at hM hE hkl
  have hBl:=zc1 (r.extract k r.size) w (by simp;omega)
  rw[S.zbf] at hBl
  obtain ⟨bl,hbl⟩:∃ bl,S.blank (r.data.toList.drop k)=bl:=⟨_,rfl⟩
  rw[hbl] at hBl hE
  rw[hE]
  have hMH:=hid hM
  have hBH:=hid hBl
  have hIH:=hid (hI w)
  have hRH:=hid (hR w)
  have h0:(0:Int)≤(k:Int):=by omega
  have h1:(k:Int)≤(r.size:Int):=by omega
  clear hsh hrd hg hI hR hM hBl hE hk hbl hrs
  by_cases hw:(n:Int)≤(k:Int)
  ·have hE2:Hid ((decide ((n:Int)≤(k:Int)) && bl)=bl):=hid (by rw[decide_eq_true hw,Bool.true_and])
   rw[hE2.out]
   go_enter Tryz.func141,Tryz.ntmps141
   go_wp2_with fail
   refine hIH.out.mono ?_
   rintro e w' ⟨rfl,rfl⟩
   go_wp2_with fail
   refine hRH.out.mono ?_
   rintro e w' ⟨rfl,rfl⟩
   go_wp2_with fail
   refine hMH.out.mono ?_
   rintro e w' ⟨rfl,rfl⟩
   go_wp2_with fail
   refine hBH.out.mono ?_
   rintro e w' ⟨rfl,rfl⟩
   go_wp2
   go_ret
   exact ⟨rfl,rfl⟩
  ·have hE2:Hid ((decide ((n:Int)≤(k:Int)) && bl)=false):=hid (by rw[decide_eq_false hw,Bool.false_and])
   rw[hE2.out]
   go_enter Tryz.func141,Tryz.ntmps141
   go_wp2_with fail
   refine hIH.out.mono ?_
   rintro e w' ⟨rfl,rfl⟩
   go_wp2_with fail
   refine hRH.out.mono ?_
   rintro e w' ⟨rfl,rfl⟩
   go_wp2_with fail
   refine hMH.out.mono ?_
   rintro e w' ⟨rfl,rfl⟩
   go_wp2_with fail
   refine hBH.out.mono ?_
   rintro e w' ⟨rfl,rfl⟩
   go_wp2
   go_ret
   exact ⟨rfl,rfl⟩
namespace S
theorem zoe (c:UInt8) (l:List UInt8):cnt c l=l.length↔∀ x∈l,x=c:=by
 induction l with
 | nil=>simp[cnt]
 | cons x r ih=>
  have:=zd0 c r
  simp only[cnt,List.length_cons,List.mem_cons,forall_eq_or_imp]
  by_cases h:x=c
  ·rw[if_pos h]
   constructor
   ·intro e;exact ⟨h,ih.1 (by omega)⟩
   ·intro e;rw[ih.2 e.2]
  ·rw[if_neg h]
   constructor
   ·intro e;omega
   ·intro e;exact absurd e.1 h
theorem zmg (l:List UInt8) (c:UInt8):∃ m,l=Lib.trimRightB l c++m∧∀ x∈m,x=c:=by
 induction l with
 | nil=>exact ⟨[],rfl,by simp⟩
 | cons x r ih=>
  obtain ⟨m,h1,h2⟩:=ih
  rw[zcm]
  by_cases he:Lib.trimRightB r c=[]
  ·rw[if_pos he]
   rw[he,List.nil_append] at h1
   by_cases hx:x=c
   ·rw[if_pos hx];exact ⟨x::r,rfl,by rw[h1];intro y hy;rcases List.mem_cons.1 hy with rfl|hy;exact hx;exact h2 y hy⟩
   ·rw[if_neg hx];exact ⟨r,rfl,by rw[h1];exact h2⟩
  ·rw[if_neg he];exact ⟨m,by rw[List.cons_append,← h1],h2⟩
theorem zhm (l:List UInt8) (c:UInt8):(Lib.trimRightB l c).getLast?≠some c:=by
 induction l with
 | nil=>simp[Lib.trimRightB]
 | cons x r ih=>
  rw[zcm]
  by_cases he:Lib.trimRightB r c=[]
  ·rw[if_pos he]
   by_cases hx:x=c
   ·rw[if_pos hx];simp
   ·rw[if_neg hx];simpa using hx
  ·rw[if_neg he]
   cases hq:Lib.trimRightB r c with
   | nil=>exact absurd hq he
   | cons y q=>rw[hq] at ih;rw[List.getLast?_cons_cons];exact ih
theorem zyy (c:UInt8) (l:List UInt8) (x:UInt8) (i:Nat) (hi:i<cnt c l) (hx:l[i]?=some x):x=c:=by
 induction l generalizing i with
 | nil=>simp at hx
 | cons y r ih=>
  simp only[cnt] at hi
  by_cases h:y=c
  ·rw[if_pos h] at hi
   cases i with
   | zero=>simp at hx;rw[← hx];exact h
   | succ i=>exact ih i (by omega) (by simpa using hx)
  ·rw[if_neg h] at hi;omega
theorem zn3 (l:List UInt8) (c:UInt8) (hc:c≠32) (h0:∃ d t,l=d::t∧d≠32):rowOf l c=decide (cnt c (Lib.trimRightB l 32)=(Lib.trimRightB l 32).length):=by
 obtain ⟨d,t,rfl,hd⟩:=h0
 obtain ⟨m,h1,h2⟩:=zmg (d::t) 32
 have hne:Lib.trimRightB (d::t) 32≠[]:=by
  rw[zcm,if_neg hd];split <;> simp
 obtain ⟨a,ha⟩:∃ a,Lib.trimRightB (d::t) 32=a:=⟨_,rfl⟩
 rw[ha] at h1 hne ⊢
 rw[Bool.eq_iff_iff,decide_eq_true_iff,zoe]
 unfold rowOf
 rw[Bool.and_eq_true,decide_eq_true_iff,h1]
 have happ:∀ (p q:List UInt8),(∀ x∈p,x=c)→(∀ x∈q,x=32)→cnt c (p++q)=p.length:=by
  intro p q hp hq
  induction p with
  | nil=>
   cases q with
   | nil=>rfl
   | cons y q=>simp[cnt,hq y (by simp)];exact fun e=>hc e.symm
  | cons y p ih=>
   have e:y=c:=hp y (by simp)
   have:=ih (fun x hx=>hp x (by simp[hx]))
   simp only[List.cons_append,cnt,List.length_cons,if_pos e,this]
 constructor
 ·rintro ⟨h3,h4⟩ x hx
  have h5:∀ b∈(a++m).drop (cnt c (a++m)),b=32:=by
   have:=h4
   unfold blank indent at this
   rw[decide_eq_true_iff] at this
   exact (zoe 32 _).1 this
  obtain ⟨i,hi⟩:=List.getElem?_of_mem hx
  have hil:=(List.getElem?_eq_some_iff.1 hi).1
  have hi2:(a++m)[i]?=some x:=by rw[List.getElem?_append_left hil];exact hi
  by_cases hk:i<cnt c (a++m)
  ·exact zyy c _ x i hk hi2
  ·exfalso
   have hl:=zhm (d::t) 32
   rw[ha] at hl
   apply hl
   rw[List.getLast?_eq_getElem?]
   have hj:a.length-1<a.length:=by omega
   rw[List.getElem?_eq_getElem hj]
   congr 1
   apply h5
   have e:(a++m)[a.length-1]?=some a[a.length-1]:=by rw[List.getElem?_append_left hj];exact List.getElem?_eq_getElem hj
   have e2:((a++m).drop (cnt c (a++m)))[a.length-1-cnt c (a++m)]?=some a[a.length-1]:=by
    rw[List.getElem?_drop,show cnt c (a++m)+(a.length-1-cnt c (a++m))=a.length-1 by omega];exact e
   exact List.mem_of_getElem? e2
 ·intro hall
  rw[happ a m hall h2]
  refine ⟨List.length_pos_iff.2 hne,?_⟩
  unfold blank indent
  rw[decide_eq_true_iff,List.drop_left,(zoe 32 m).2 h2]
end S
set_option maxHeartbeats 1000000 in
theorem zmp (s:ByteArray) (w:World) (hs:s.size≤1000000) :
  Calls Tryz.prog 143 #[.string s] w fun e w'=>e = .returned (.int .i64 (S.zac s.data.toList:Nat))∧w'=w:=by
 cases hsh:S.shallow s.data.toList with
 | nil=>
  have hE:S.zac s.data.toList=0:=by unfold S.zac;rw[hsh];rfl
  have hI:=hid (ztg s hs hsh w)
  rw[hE]
  clear hE hsh
  go_enter Tryz.func143,Tryz.ntmps143
  go_wp2_with fail
  refine hI.out.mono ?_
  rintro e w' ⟨rfl,rfl⟩
  go_wp2
  go_ret
  exact ⟨rfl,rfl⟩
 | cons d t=>
  obtain ⟨_,_,_,_,hle,hc,hI,_⟩:=zr6 s hs d t hsh
  have hsc:=S.zgr _ d t hsh
  have hBa:=zko s w hs
  rw[← S.zfs,show S.cnt 32 s.data.toList=S.indent s.data.toList from rfl,hsc.1] at hBa
  obtain ⟨r,hr⟩:∃ r,S.B (Lib.trimRightB (d::t) 32)=r:=⟨_,rfl⟩
  have hrd:Lib.trimRightB (d::t) 32=r.data.toList:=by rw[← hr,S.zcn]
  have hrs:r.size≤t.length+1:=by rw[← S.length_data,← hrd];exact S.zci _ _
  rw[hr] at hBa
  have hM1:=zdi r 0 61 w (by omega) (by omega)
  have hM2:=zdi r 0 45 w (by omega) (by omega)
  rw[List.drop_zero] at hM1 hM2
  have hE:S.zac s.data.toList=if S.cnt 61 r.data.toList=r.size then 1 else if S.cnt 45 r.data.toList=r.size then 2 else 0:=by
   unfold S.zac
   rw[hsh,S.zn3 (d::t) 61 (by decide) ⟨d,t,rfl,hc⟩,S.zn3 (d::t) 45 (by decide) ⟨d,t,rfl,hc⟩,hrd,S.length_data]
   simp only[decide_eq_true_eq]
  have hl1:=S.zd0 61 r.data.toList
  have hl2:=S.zd0 45 r.data.toList
  rw[S.length_data] at hl1 hl2
  obtain ⟨k1,hk1⟩:∃ k1,S.cnt 61 r.data.toList=k1:=⟨_,rfl⟩
  obtain ⟨k2,hk2⟩:∃ k2,S.cnt 45 r.data.toList=k2:=⟨_,rfl⟩
  rw[hk1] at hM1 hE hl1
  rw[hk2] at hM2 hE hl2
  have hIH:=hid (hI w)
  have hBH:=hid hBa
  have hM1H:=hid hM1
  have hM2H:=hid hM2
  rw[hE]
  clear hsh hI hBa hM1 hM2 hE hr hrd hk1 hk2 hsc
  by_cases h1:k1=r.size
  ·have h1':(k1:Int)=(r.size:Int):=by omega
   rw[if_pos h1]
   clear h1
   go_enter Tryz.func143,Tryz.ntmps143
   go_wp2_with fail
   refine hIH.out.mono ?_
   rintro e w' ⟨rfl,rfl⟩
   go_wp2_with fail
   refine hBH.out.mono ?_
   rintro e w' ⟨rfl,rfl⟩
   go_wp2_with fail
   refine hM1H.out.mono ?_
   rintro e w' ⟨rfl,rfl⟩
   go_wp2
   go_ret
   exact ⟨rfl,rfl⟩
  ·have h1':¬ (k1:Int)=(r.size:Int):=by omega
   rw[if_neg h1]
   clear h1
   by_cases h2:k2=r.size
   ·have h2':(k2:Int)=(r.size:Int):=by omega
    rw[if_pos h2]
    clear h2
    go_enter Tryz.func143,Tryz.ntmps143
    go_wp2_with fail
    refine hIH.out.mono ?_
    rintro e w' ⟨rfl,rfl⟩
    go_wp2_with fail
    refine hBH.out.mono ?_
    rintro e w' ⟨rfl,rfl⟩
    go_wp2_with fail
    refine hM1H.out.mono ?_
    rintro e w' ⟨rfl,rfl⟩
    go_wp2_with fail
    refine hM2H.out.mono ?_
    rintro e w' ⟨rfl,rfl⟩
    go_wp2
    go_ret
    exact ⟨rfl,rfl⟩
   ·have h2':¬ (k2:Int)=(r.size:Int):=by omega
    rw[if_neg h2]
    clear h2
    go_enter Tryz.func143,Tryz.ntmps143
    go_wp2_with fail
    refine hIH.out.mono ?_
    rintro e w' ⟨rfl,rfl⟩
    go_wp2_with fail
    refine hBH.out.mono ?_
    rintro e w' ⟨rfl,rfl⟩
    go_wp2_with fail
    refine hM1H.out.mono ?_
    rintro e w' ⟨rfl,rfl⟩
    go_wp2_with fail
    refine hM2H.out.mono ?_
    rintro e w' ⟨rfl,rfl⟩
    go_wp2
    go_ret
    exact ⟨rfl,rfl⟩
namespace S
theorem zhu (l:List UInt8) (c:UInt8):Lib.hasSuffix l [c]=true↔l.getLast?=some c:=by
 unfold Lib.hasSuffix
 rw[List.isSuffixOf_iff_suffix]
 constructor
 ·rintro ⟨a,rfl⟩;simp
 ·intro h
  obtain ⟨a,rfl⟩:=List.getLast?_eq_some_iff.1 h
  exact ⟨a,rfl⟩
theorem zvx (l:List UInt8) (k:Nat) (hk:Lib.trimRightB (zaz l) 35=(zaz l).take k) (hkl:k<(zaz l).length) (h:k=0∨(zaz l)[k-1]?=some 32):zaj l=Lib.trimRightB ((zaz l).take k) 32:=by
 unfold zaj
 rw[hk]
 rw[if_pos]
 cases k with
 | zero=>exact .inl rfl
 | succ k=>
  rcases h with h|h
  ·omega
  ·right
   rw[zhu,List.getLast?_eq_getElem?,List.length_take,Nat.min_eq_left (by omega),List.getElem?_take_of_lt (by omega)];exact h
theorem ztf (l:List UInt8) (k:Nat) (hk:Lib.trimRightB (zaz l) 35=(zaz l).take k) (h:k=(zaz l).length∨(0<k∧k<(zaz l).length∧(zaz l)[k-1]?≠some 32)):zaj l=zaz l:=by
 have hlast:(zaz l).getLast?≠some 32:=by
  unfold zaz;rw[← zfs];exact zhm _ _
 unfold zaj
 rw[hk]
 rcases h with h|⟨h0,h1,h2⟩
 ·rw[h,List.take_length]
  split
  ·rename_i h3
   rcases h3 with h3|h3
   ·rw[List.isEmpty_iff.1 h3];rfl
   ·rw[zhu] at h3;exact absurd h3 hlast
  ·rfl
 ·rw[if_neg]
  rintro (h3|h3)
  ·have:=congrArg List.length (List.isEmpty_iff.1 h3);rw[List.length_take,List.length_nil] at this;omega
  ·rw[zhu,List.getLast?_eq_getElem?,List.length_take,Nat.min_eq_left (by omega),List.getElem?_take_of_lt (by omega)] at h3
   exact h2 h3
end S
set_option maxRecDepth 100000 in
set_option maxHeartbeats 2000000 in
theorem znf (s:ByteArray) (w:World) (hs:s.size≤1000000) :
  Calls Tryz.prog 90 #[.string s] w fun e w'=>∃ X:ByteArray,e = .returned (.tuple #[.int .i64 (S.zau s.data.toList:Nat),.string X])∧Hid (0<S.zau s.data.toList→X=S.B (S.zaj s.data.toList))∧w'=w:=by
 cases hsh:S.shallow s.data.toList with
 | nil=>
  have hE:S.zau s.data.toList=0:=by unfold S.zau;rw[hsh];rfl
  have hI:=hid (ztg s hs hsh w)
  rw[hE]
  clear hE hsh
  go_enter Tryz.func90,Tryz.ntmps90
  go_wp2_with fail
  refine hI.out.mono ?_
  rintro e w' ⟨rfl,rfl⟩
  go_wp2
  go_ret2
  exact ⟨⟨#[]⟩,rfl,hid (fun h=>by omega),rfl⟩
 | cons d t=>
  obtain ⟨r,hrd,hrs,hg,hle,hc,hI,hR⟩:=zr6 s hs d t hsh
  have hM:=zdi r 0 35 w (by omega) (by omega)
  rw[List.drop_zero] at hM
  have hkl:=S.zd0 35 r.data.toList
  rw[S.length_data] at hkl
  have hE:S.zau s.data.toList=if 6<S.cnt 35 r.data.toList∨S.zb3 r.data.toList (S.cnt 35 r.data.toList)=false then 0 else S.cnt 35 r.data.toList:=by
   unfold S.zau;rw[hsh,hrd]
  have hO:S.zaz s.data.toList=Lib.trimB (r.data.toList.drop (S.cnt 35 r.data.toList)) 32:=by unfold S.zaz;rw[hsh,hrd]
  obtain ⟨n,hn⟩:∃ n,S.cnt 35 r.data.toList=n:=⟨_,rfl⟩
  rw[hn] at hM hE hkl hO
  have hBa:=zko (r.extract n r.size) w (by simp;omega)
  rw[S.zbf,← hO] at hBa
  obtain ⟨O,hOl⟩:∃ O,S.zaz s.data.toList=O:=⟨_,rfl⟩
  have hOle:O.length≤r.size:=by
   rw[← hOl,hO]
   have:=S.zik (r.data.toList.drop n) 32
   rw[List.length_drop,S.length_data] at this;omega
  have hMH:=hid hM
  have hIH:=hid (hI w)
  have hRH:=hid (hR w)
  have hJ0:(0:Int)≤(n:Int):=by omega
  have hJ1:(n:Int)≤(r.size:Int):=by omega
  by_cases hbad:n<1∨6<n∨(n<r.size∧r.data.toList[n]?≠some 32)
  ·have hE0:S.zau s.data.toList=0:=by
    rw[hE]
    rcases hbad with h|h|h
    ·split <;> omega
    ·rw[if_pos (.inl h)]
    ·have h5:S.zb3 r.data.toList n=false:=by
      unfold S.zb3
      rw[S.length_data,decide_eq_false (by omega),decide_eq_false h.2];rfl
     rw[if_pos (.inr h5)]
   have hgn:n<r.size→r.data.toList[n]?=some r[n]!:=fun h=>by rw[S.zaf r n h];simp[getElem!_pos,h]
   rw[hE0]
   by_cases h1:n<1
   ·have h1':(n:Int)<1:=by omega
    clear hsh hrd hg hI hR hM hE hn hBa hO hOl hE0 hbad hgn
    go_enter Tryz.func90,Tryz.ntmps90
    go_wp2_with fail
    refine hIH.out.mono ?_
    rintro e w' ⟨rfl,rfl⟩
    go_wp2_with fail
    refine hRH.out.mono ?_
    rintro e w' ⟨rfl,rfl⟩
    go_wp2_with fail
    refine hMH.out.mono ?_
    rintro e w' ⟨rfl,rfl⟩
    go_wp2
    go_ret2
    exact ⟨⟨#[]⟩,rfl,hid (fun h=>by omega),rfl⟩
   ·have h1':¬ (n:Int)<1:=by omega
    by_cases h2:6<n
    ·have h2':(6:Int)<(n:Int):=by omega
     clear hsh hrd hg hI hR hM hE hn hBa hO hOl hE0 hbad hgn
     go_enter Tryz.func90,Tryz.ntmps90
     go_wp2_with fail
     refine hIH.out.mono ?_
     rintro e w' ⟨rfl,rfl⟩
     go_wp2_with fail
     refine hRH.out.mono ?_
     rintro e w' ⟨rfl,rfl⟩
     go_wp2_with fail
     refine hMH.out.mono ?_
     rintro e w' ⟨rfl,rfl⟩
     go_wp2
     go_ret2
     exact ⟨⟨#[]⟩,rfl,hid (fun h=>by omega),rfl⟩
    ·have h2':¬ (6:Int)<(n:Int):=by omega
     have h3:n<r.size∧r.data.toList[n]?≠some 32:=by
      rcases hbad with h|h|h
      ·omega
      ·omega
      ·exact h
     have hlt:=h3.1
     have h3':(n:Int)<(r.size:Int):=by omega
     have h4:((r[n].toNat:Int) != 32)=true:=by
      rw[bne_iff_ne];intro h
      apply h3.2
      rw[S.zaf r n h3.1]
      congr 1
      exact UInt8.toNat_inj.1 (by show r[n].toNat=32;omega)
     clear hsh hrd hg hI hR hM hE hn hBa hO hOl hE0 hbad hgn h3
     go_enter Tryz.func90,Tryz.ntmps90
     go_wp2_with fail
     refine hIH.out.mono ?_
     rintro e w' ⟨rfl,rfl⟩
     go_wp2_with fail
     refine hRH.out.mono ?_
     rintro e w' ⟨rfl,rfl⟩
     go_wp2_with fail
     refine hMH.out.mono ?_
     rintro e w' ⟨rfl,rfl⟩
     go_wp2
     go_ret2
     exact ⟨⟨#[]⟩,rfl,hid (fun h=>by omega),rfl⟩
  ·have hn1:1≤n∧n≤6:=by omega
   have hE1:S.zau s.data.toList=n:=by
    rw[hE,if_neg]
    rintro (h|h)
    ·omega
    ·apply hbad
     unfold S.zb3 at h
     rw[Bool.or_eq_false_iff,S.length_data] at h
     exact .inr (.inr ⟨by have:=of_decide_eq_false h.1;omega,of_decide_eq_false h.2⟩)
   rw[hE1]
   obtain ⟨q,hq⟩:∃ q,S.B O=q:=⟨_,rfl⟩
   have hqd:O=q.data.toList:=by rw[← hq,S.zcn]
   have hqs:q.size≤r.size:=by rw[← S.length_data,← hqd];exact hOle
   rw[hOl,hq] at hBa
   have hCutT:Hid (∀ k,Lib.trimRightB q.data.toList 35=q.data.toList.take k→k<q.size→(k=0∨q.data.toList[k-1]?=some 32)→S.B (Lib.trimRightB (q.extract 0 k).data.toList 32)=S.B (S.zaj s.data.toList)):=hid (fun k h1 h2 h3=>by
    rw[S.zvx s.data.toList k (by rw[hOl,hqd];exact h1) (by rw[hOl,hqd,S.length_data];exact h2) (by rw[hOl,hqd];exact h3),hOl,hqd,zx6,S.zcn])
   have hKeepT:Hid (∀ k,Lib.trimRightB q.data.toList 35=q.data.toList.take k→(k=q.size∨(0<k∧k<q.size∧q.data.toList[k-1]?≠some 32))→q=S.B (S.zaj s.data.toList)):=hid (fun k h1 h2=>by
    rw[S.ztf s.data.toList k (by rw[hOl,hqd];exact h1) (by rw[hOl,hqd,S.length_data];exact h2),hOl,hq])
   have hEnd:Hid (∀ k,k≤q.size→∀ wx,Calls Tryz.prog 130 #[.string (q.extract 0 k)] wx fun e w'=>e = .returned (.string (S.B (Lib.trimRightB (q.extract 0 k).data.toList 32)))∧wx=w'):=hid (fun k hk wx=>(zfl (q.extract 0 k) wx (by simp;omega)).mono (fun e w' ⟨h1,h2⟩=>⟨h1,h2.symm⟩))
   have hBH:=hid hBa
   have h1':¬ (n:Int)<1:=by omega
   have h2':¬ (6:Int)<(n:Int):=by omega
   have hend2:n<r.size→((r.data.toList[n]?=some 32)):=fun h=>by
    by_cases e:r.data.toList[n]?=some 32
    ·exact e
    ·exact absurd (.inr (.inr ⟨h,e⟩)) hbad
   have hstart:Hid (n<r.size→∀ h:n<r.size,((r[n].toNat:Int) != 32)=false):=hid (fun _ h=>by
    have:=hend2 h
    rw[S.zaf r n h] at this
    have e:r[n]=32:=Option.some.inj this
    simp[e])
   have hrb:r.size≤1000000:=by omega
   clear hsh hrd hg hI hR hM hE hn hBa hO hOl hE1 hbad hq hqd hend2 hrs
   go_enter Tryz.func90,Tryz.ntmps90
   go_wp2_with fail
   refine hIH.out.mono ?_
   rintro e w' ⟨rfl,rfl⟩
   go_wp2_with fail
   refine hRH.out.mono ?_
   rintro e w' ⟨rfl,rfl⟩
   go_wp2_with fail
   refine hMH.out.mono ?_
   rintro e w' ⟨rfl,rfl⟩
   go_upto_region 6 with fail
   go_cut [34] (fun s34 wx=>s34 = .bool false∧w'=wx)
   case first=>
    by_cases hlt:n<r.size
    ·have h3':(n:Int)<(r.size:Int):=by omega
     have h4:=hstart.out hlt hlt
     go_wp2
     go_meet
     exact ⟨by first|rfl|(have e1:¬ (n:Int)<1:=(by omega);have e2:¬ (6:Int)<(n:Int):=(by omega);rw[decide_eq_false e1,decide_eq_false e2];rfl),rfl⟩
    ·have h3':¬ (n:Int)<(r.size:Int):=by omega
     go_wp2
     go_meet
     exact ⟨by first|rfl|(have e1:¬ (n:Int)<1:=(by omega);have e2:¬ (6:Int)<(n:Int):=(by omega);rw[decide_eq_false e1,decide_eq_false e2];rfl),rfl⟩
   case rest=>
   obtain ⟨rfl,rfl⟩:=hcut
   clear hstart
   go_wp2_with fail
   refine hBH.out.mono ?_
   rintro e w' ⟨rfl,rfl⟩
   go_wp2
   go_loop [8] (fun i=>∃ k:Nat,k≤q.size∧i = .int .i64 k∧∀ j,k≤j→j<q.data.toList.length→q.data.toList[j]?=some 35) (fun i=>(intOf i).toNat)
   case atStart=>exact ⟨q.size,Nat.le_refl _,rfl,by intro j hj hl;rw[S.length_data] at hl;omega⟩
   case round=>
    obtain ⟨k,hk,rfl,hall⟩:=hrel
    have hI1:(0:Int)≤(k:Int):=by omega
    have hI2:(k:Int)≤(q.size:Int):=by omega
    by_cases h0:0<k
    ·obtain ⟨m,rfl⟩:∃ m,k=m+1:=⟨k-1,by omega⟩
     have hgm:q.data.toList[m]?=some q[m]:=S.zaf q m (by omega)
     have hwr:IntKind.i64.wrap (((m+1:Nat):Int)-1)=(m:Int):=by rw[IntKind.wrap_i64];omega
     have hI3:(m:Int)<(q.size:Int):=by omega
     have hlm:m<q.size:=by omega
     by_cases hc35:q[m]=35
     ·have h1:((q[m].toNat:Int) == 35)=true:=by simp[hc35]
      have hall':Hid (∀ j,m≤j→j<q.data.toList.length→q.data.toList[j]?=some 35):=by
       intro j hj hl;by_cases e:j=m
       ·subst e;rw[hgm,hc35]
       ·exact hall j (by omega) hl
      clear hgm hall hc35
      go_wp2
      exact ⟨⟨m,by omega,by go_num,hall'.out⟩,by simp[intOf]⟩
     ·have h1:((q[m].toNat:Int) == 35)=false:=by
       rw[beq_eq_false_iff_ne];intro h;exact hc35 (UInt8.toNat_inj.1 (by show q[m].toNat=35;omega))
      have htr:Lib.trimRightB q.data.toList 35=q.data.toList.take (m+1):=S.zeq q.data.toList 35 (m+1) (by rw[S.length_data];omega) hall (.inr (by rw[Nat.add_sub_cancel,hgm];simpa using hc35))
      by_cases hfull:m+1=q.size
      ·have hX:=hid (hKeepT.out (m+1) htr (.inl hfull))
       have h2:¬ (((m+1:Nat):Int))<(q.size:Int):=by omega
       clear hgm hall hc35 htr hfull
       go_wp2
       go_ret2
       exact ⟨q,rfl,hid (fun _=>hX.out),rfl⟩
      ·have h2:(((m+1:Nat):Int))<(q.size:Int):=by omega
       have h3:¬ (((m+1:Nat):Int))=0:=by omega
       by_cases h32:q[m]=32
       ·have h4:((q[m].toNat:Int) == 32)=true:=by simp[h32]
        have hX:=hid (hCutT.out (m+1) htr (by omega) (.inr (by rw[Nat.add_sub_cancel,hgm,h32])))
        have hEE:=hid (hEnd.out (m+1) (by omega))
        clear hgm hall hc35 htr h32
        go_wp2_with fail
        refine (hEE.out _).mono ?_
        rintro e w' ⟨rfl,rfl⟩
        go_wp2
        go_ret2
        exact ⟨_,rfl,hid (fun _=>by first|exact hX.out|(have:=hX.out;rw[zx6,S.zcn] at this;exact this)),rfl⟩
       ·have h4:((q[m].toNat:Int) == 32)=false:=by
         rw[beq_eq_false_iff_ne];intro h;exact h32 (UInt8.toNat_inj.1 (by show q[m].toNat=32;omega))
        have hX:=hid (hKeepT.out (m+1) htr (.inr ⟨by omega,by omega,by rw[Nat.add_sub_cancel,hgm];simpa using h32⟩))
        clear hgm hall hc35 htr h32
        go_wp2
        go_ret2
        exact ⟨q,rfl,hid (fun _=>hX.out),rfl⟩
    ·have hk0:k=0:=by omega
     subst hk0
     have htr:Lib.trimRightB q.data.toList 35=q.data.toList.take 0:=S.zeq q.data.toList 35 0 (Nat.zero_le _) hall (.inl rfl)
     by_cases hfull:q.size=0
     ·have hX:=hid (hKeepT.out 0 htr (.inl hfull.symm))
      have h2:¬ (0:Int)<(q.size:Int):=by omega
      clear hall htr hfull
      go_wp2
      go_ret2
      exact ⟨q,rfl,hid (fun _=>hX.out),rfl⟩
     ·have h2:(0:Int)<(q.size:Int):=by omega
      have hX:=hid (hCutT.out 0 htr (by omega) (.inl rfl))
      have hEE:=hEnd.out 0 (by omega)
      rw[show q.extract 0 0=ByteArray.empty by rw[zx6];rfl] at hEE hX
      have hEEH:=hid hEE
      clear hall htr hfull hEE
      go_wp2_with fail
      refine (hEEH.out _).mono ?_
      rintro e w' ⟨rfl,rfl⟩
      go_wp2
      go_ret2
      exact ⟨_,rfl,hid (fun _=>hX.out),rfl⟩
def zfe (l:List UInt8) (m k:Int) (x:ByteArray):Prop:=(0≤k∧k≤1000000)∧if (S.fence l).ok=true then m=((S.fence l).mark.toNat:Int)∧k=((S.fence l).width:Int)∧x=S.B (S.fence l).info else k=0
set_option maxRecDepth 100000 in
set_option maxHeartbeats 2000000 in
theorem zn8 (s:ByteArray) (w:World) (hs:s.size≤1000000) :
  Calls Tryz.prog 91 #[.string s] w fun e w'=>∃ (m k:Int) (x:ByteArray),e = .returned (.tuple #[.int .u8 m,.int .i64 k,.string x])∧Hid (zfe s.data.toList m k x)∧w'=w:=by
 cases hsh:S.shallow s.data.toList with
 | nil=>
  have hE:Hid (zfe s.data.toList 0 0 ⟨#[]⟩):=hid ⟨by omega,by rw[S.zku _ hsh];rfl⟩
  have hI:=hid (ztg s hs hsh w)
  clear hsh
  go_enter Tryz.func91,Tryz.ntmps91
  go_wp2_with fail
  refine hI.out.mono ?_
  rintro e w' ⟨rfl,rfl⟩
  go_wp2
  go_ret3
  exact ⟨0,0,⟨#[]⟩,rfl,hE,rfl⟩
 | cons c t=>
  obtain ⟨r,hrd,hrs,hg,hle,hc,hI,hR⟩:=zr6 s hs c t hsh
  have hz:0<r.size:=by omega
  have hg0:=hg hz
  have hM:=zdi r 0 c w (by omega) (by omega)
  rw[List.drop_zero] at hM
  have hkl:=S.zd0 c r.data.toList
  rw[S.length_data] at hkl
  have hF1:c=96∨c=126→S.fence s.data.toList=⟨c,S.cnt c r.data.toList,S.indent s.data.toList,S.zeh r.data.toList c,S.zcd c (S.cnt c r.data.toList) (S.zeh r.data.toList c)⟩:=fun h=>by rw[hrd];exact S.zi6 _ c t hsh h
  have hF0:¬ c=96→¬ c=126→S.fence s.data.toList=⟨0,0,0,[],false⟩:=S.zoo _ c t hsh
  obtain ⟨n,hn⟩:∃ n,S.cnt c r.data.toList=n:=⟨_,rfl⟩
  rw[hn] at hM hF1 hkl
  have hBa:=zko (r.extract n r.size) w (by simp;omega)
  rw[S.zbf] at hBa
  obtain ⟨info,hinf⟩:∃ info,S.zeh r.data.toList c=info:=⟨_,rfl⟩
  have hinf2:Lib.trimB (r.data.toList.drop n) 32=info:=by rw[← hinf];unfold S.zeh;rw[hn]
  rw[hinf2] at hBa
  rw[hinf] at hF1
  obtain ⟨q,hq⟩:∃ q,S.B info=q:=⟨_,rfl⟩
  have hqd:info=q.data.toList:=by rw[← hq,S.zcn]
  have hqs:q.size≤1000000:=by
   rw[← S.length_data,← hqd,← hinf2]
   have:=S.zik (r.data.toList.drop n) 32
   rw[List.length_drop,S.length_data] at this;omega
  rw[hq] at hBa
  have hMH:=hid hM
  have hIH:=hid (hI w)
  have hRH:=hid (hR w)
  have hBH:=hid hBa
  have hJ0:(0:Int)≤(n:Int):=by omega
  have hJ1:(n:Int)≤(r.size:Int):=by omega
  have hrb:r.size≤1000000:=by omega
  by_cases hm:c=96∨c=126
  ·by_cases h3:n<3
   ·have hE:Hid (zfe s.data.toList 0 0 ⟨#[]⟩):=hid ⟨by omega,by
     rw[hF1 hm,if_neg]
     show ¬ S.zcd c n info=true
     unfold S.zcd
     rw[decide_eq_false (by omega)];simp⟩
    have h3':(n:Int)<3:=by omega
    clear hsh hrd hg hI hR hM hn hBa hF1 hF0 hinf hinf2 hq hqd hrs h3
    rcases hm with h|h <;> subst h
    all_goals
     go_enter Tryz.func91,Tryz.ntmps91
     go_wp2_with fail
     refine hIH.out.mono ?_
     rintro e w' ⟨rfl,rfl⟩
     go_wp2_with fail
     refine hRH.out.mono ?_
     rintro e w' ⟨rfl,rfl⟩
     go_wp2_with fail
     refine hMH.out.mono ?_
     rintro e w' ⟨rfl,rfl⟩
     go_wp2
     go_ret3
     exact ⟨0,0,⟨#[]⟩,rfl,hE,rfl⟩
   ·have h3':¬ (n:Int)<3:=by omega
    rcases hm with h|h
    ·subst h
     have hok:Hid (zfe s.data.toList 96 n q∨96∈q.data.toList):=hid (by
      by_cases hmem:96∈q.data.toList
      ·exact .inr hmem
      ·left
       refine ⟨by omega,?_⟩
       rw[hF1 (.inl rfl)]
       have:S.zcd 96 n info=true:=by unfold S.zcd;rw[hqd,decide_eq_true (show 3≤n by omega),decide_eq_false hmem];rfl
       rw[if_pos this]
       exact ⟨rfl,rfl,hq.symm⟩)
     have hno:Hid (96∈q.data.toList→zfe s.data.toList 0 0 ⟨#[]⟩):=hid (fun hmem=>⟨by omega,by
      rw[hF1 (.inl rfl)]
      have:S.zcd 96 n info=false:=by unfold S.zcd;rw[hqd,decide_eq_true hmem];simp
      rw[if_neg (by rw[this];simp)]⟩)
     clear hsh hrd hg hI hR hM hn hBa hF1 hF0 hinf hinf2 hq hqd hrs h3
     go_enter Tryz.func91,Tryz.ntmps91
     go_wp2_with fail
     refine hIH.out.mono ?_
     rintro e w' ⟨rfl,rfl⟩
     go_wp2_with fail
     refine hRH.out.mono ?_
     rintro e w' ⟨rfl,rfl⟩
     go_wp2_with fail
     refine hMH.out.mono ?_
     rintro e w' ⟨rfl,rfl⟩
     go_wp2_with fail
     refine hBH.out.mono ?_
     rintro e w' ⟨rfl,rfl⟩
     go_wp2
     go_loop [10] (fun i=>∃ k:Nat,k≤q.size∧i = .int .i64 k∧∀ j,j<k→q.data.toList[j]?≠some 96) (fun i=>q.size-(intOf i).toNat)
     case atStart=>exact ⟨0,Nat.zero_le _,rfl,by intro j hj;omega⟩
     case round=>
      obtain ⟨k,hk,rfl,hall⟩:=hrel
      by_cases hlt:k<q.size
      ·have hgk:q.data.toList[k]?=some q[k]:=S.zaf q k hlt
       have hI2:(k:Int)<(q.size:Int):=by omega
       by_cases h1:q[k]=96
       ·have q1:((q[k].toNat:Int) == 96)=true:=by simp[h1]
        have hE:=hid (hno.out (by have:=List.mem_of_getElem? hgk;rwa [h1] at this))
        clear hgk hall h1
        go_wp2
        go_ret3
        exact ⟨0,0,⟨#[]⟩,rfl,hE,rfl⟩
       ·have q1:((q[k].toNat:Int) == 96)=false:=by
         rw[beq_eq_false_iff_ne];intro h;exact h1 (UInt8.toNat_inj.1 (by show q[k].toNat=96;omega))
        have hall':Hid (∀ j,j<k+1→q.data.toList[j]?≠some 96):=hid (by
         intro j hj;by_cases e:j=k
         ·subst e;rw[hgk];simpa using h1
         ·exact hall j (by omega))
        clear hgk hall h1
        go_wp2
        exact ⟨⟨k+1,by omega,by go_num,hall'.out⟩,by simp[intOf];omega⟩
      ·have hE:Hid (zfe s.data.toList 96 n q):=hid (by
        rcases hok.out with h|h
        ·exact h
        ·exfalso
         obtain ⟨j,hj⟩:=List.getElem?_of_mem h
         have hjl:=(List.getElem?_eq_some_iff.1 hj).1
         rw[S.length_data] at hjl
         exact hall j (by omega) hj)
       have hI2:¬ (k:Int)<(q.size:Int):=by omega
       clear hall
       go_wp2
       go_ret3
       exact ⟨96,n,q,rfl,hE,rfl⟩
    ·subst h
     have hE:Hid (zfe s.data.toList 126 n q):=hid (by
      refine ⟨by omega,?_⟩
      rw[hF1 (.inr rfl)]
      have:S.zcd 126 n info=true:=by unfold S.zcd;rw[decide_eq_true (show 3≤n by omega)];rfl
      rw[if_pos this]
      exact ⟨rfl,rfl,hq.symm⟩)
     clear hsh hrd hg hI hR hM hn hBa hF1 hF0 hinf hinf2 hq hqd hrs h3
     go_enter Tryz.func91,Tryz.ntmps91
     go_wp2_with fail
     refine hIH.out.mono ?_
     rintro e w' ⟨rfl,rfl⟩
     go_wp2_with fail
     refine hRH.out.mono ?_
     rintro e w' ⟨rfl,rfl⟩
     go_wp2_with fail
     refine hMH.out.mono ?_
     rintro e w' ⟨rfl,rfl⟩
     go_wp2_with fail
     refine hBH.out.mono ?_
     rintro e w' ⟨rfl,rfl⟩
     go_wp2
     go_loop [10] (fun i=>∃ k:Nat,k≤q.size∧i = .int .i64 k) (fun i=>q.size-(intOf i).toNat)
     case atStart=>exact ⟨0,Nat.zero_le _,rfl⟩
     case round=>
      obtain ⟨k,hk,rfl⟩:=hrel
      by_cases hlt:k<q.size
      ·have hI2:(k:Int)<(q.size:Int):=by omega
       go_wp2
       exact ⟨⟨k+1,by omega,by go_num⟩,by simp[intOf];omega⟩
      ·have hI2:¬ (k:Int)<(q.size:Int):=by omega
       go_wp2
       go_ret3
       exact ⟨126,n,q,rfl,hE,rfl⟩
  ·have hE:Hid (zfe s.data.toList 0 0 ⟨#[]⟩):=hid ⟨by omega,by
    rw[hF0 (fun h=>hm (.inl h)) (fun h=>hm (.inr h))];rfl⟩
   have e1:((c.toNat:Int) != 96)=true:=by rw[bne_iff_ne];intro h;exact hm (.inl (UInt8.toNat_inj.1 (by show c.toNat=96;omega)))
   have e2:((c.toNat:Int) != 126)=true:=by rw[bne_iff_ne];intro h;exact hm (.inr (UInt8.toNat_inj.1 (by show c.toNat=126;omega)))
   clear hsh hrd hg hI hR hM hn hBa hF1 hF0 hinf hinf2 hq hqd hrs hm
   go_enter Tryz.func91,Tryz.ntmps91
   go_wp2_with fail
   refine hIH.out.mono ?_
   rintro e w' ⟨rfl,rfl⟩
   go_wp2_with fail
   refine hRH.out.mono ?_
   rintro e w' ⟨rfl,rfl⟩
   go_wp2_with fail
   refine hMH.out.mono ?_
   rintro e w' ⟨rfl,rfl⟩
   go_wp2
   go_ret3
   exact ⟨0,0,⟨#[]⟩,rfl,hE,rfl⟩
end Go.Proofs.YtlojgpkajkedeaaGreatDoor
