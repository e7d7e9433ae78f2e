import Derived.Test.YtlojgpkajkedeaaGreatDoorMRA
import Derived.Test.YtlojgpkajkedeaaGreatDoorMD4
namespace Go.Proofs.YtlojgpkajkedeaaGreatDoor
open Go.RowKit
set_option maxHeartbeats 4000000 in
theorem zpt (b:UInt8) (w:World) :
  Calls Tryz.prog 133 #[.int .u8 (b.toNat:Int)] w fun e w'=>e = .returned (.bool (S.mark b))∧w=w':=by
 obtain ⟨n,hn⟩:∃ n,b.toNat=n:=⟨_,rfl⟩
 have hL:Hid (S.mark b=(((decide (32<n) && decide (n≤126)) && !((decide (97≤n) && decide (n≤122)) || (decide (65≤n) && decide (n≤90)))) && (decide (n<48) || decide (57<n)))):=hid (by unfold S.mark S.letter;rw[hn])
 rw[hn,hL.out]
 clear hn hL
 rcases (by omega:n<33∨(33≤n∧n≤47)∨(48≤n∧n≤57)∨(58≤n∧n≤64)∨(65≤n∧n≤90)∨(91≤n∧n≤96)∨(97≤n∧n≤122)∨(123≤n∧n≤126)∨127≤n) with h|h|h|h|h|h|h|h|h
 all_goals (
  go_enter Tryz.func133,Tryz.ntmps133
  go_wp2
  go_ret
  exact ⟨zaw (by rw[Bool.eq_iff_iff];simp;omega),rfl⟩)
set_option maxHeartbeats 2000000 in
theorem zkn (s:ByteArray) (k:Int) (w:World) (h1 : -1≤k) (h2:k≤s.size) :
  Calls Tryz.prog 188 #[.string s,.int .i64 k] w fun e w'=>e = .returned (.int .i64 (S.side s.data.toList k))∧w=w':=by
 by_cases h0:k<0
 ·have hS:Hid (S.side s.data.toList k=0):=hid (by unfold S.side;rw[if_pos (.inl h0)])
  go_enter Tryz.func188,Tryz.ntmps188
  go_wp2
  go_ret
  exact ⟨zal hS.out.symm,rfl⟩
 ·obtain ⟨n,rfl⟩:∃ n:Nat,k=n:=⟨k.toNat,by omega⟩
  by_cases hn:n=s.size
  ·have hS:Hid (S.side s.data.toList (n:Int)=0):=hid (by unfold S.side;rw[if_pos (.inr (by rw[S.length_data];omega))])
   subst hn
   go_enter Tryz.func188,Tryz.ntmps188
   go_wp2
   go_ret
   exact ⟨zal hS.out.symm,rfl⟩
  ·have hlt:n<s.size:=by omega
   have hg:=S.zaf s n hlt
   have hM:=hid (fun wx=>zpt s[n] wx)
   have hS:Hid (S.side s.data.toList (n:Int)=if s[n]=32∨s[n]=10 then 0 else if S.mark s[n]=true then 1 else 2):=hid (by
    unfold S.side;rw[if_neg (by rw[S.length_data];omega),Int.toNat_natCast,hg])
   have hne:¬ (s.size:Int)≤(n:Int):=by omega
   clear hg
   by_cases hx:s[n]=32
   ·have hxn:s[n].toNat=32:=by rw[hx];rfl
    have hS2:Hid (S.side s.data.toList (n:Int)=0):=hid (by rw[hS.out,if_pos (.inl hx)])
    clear hx
    go_enter Tryz.func188,Tryz.ntmps188
    go_wp2
    go_ret
    exact ⟨zal hS2.out.symm,rfl⟩
   ·have hxb:(((s[n].toNat:Nat):Int) == 32)=false:=by
     rw[beq_eq_false_iff_ne];intro e;exact hx (UInt8.toNat_inj.1 (by show s[n].toNat=32;omega))
    by_cases hy:s[n]=10
    ·have hyn:s[n].toNat=10:=by rw[hy];rfl
     have hS2:Hid (S.side s.data.toList (n:Int)=0):=hid (by rw[hS.out,if_pos (.inr hy)])
     clear hx hy hxb
     go_enter Tryz.func188,Tryz.ntmps188
     go_wp2
     go_ret
     exact ⟨zal hS2.out.symm,rfl⟩
    ·have hyb:(((s[n].toNat:Nat):Int) == 10)=false:=by
      rw[beq_eq_false_iff_ne];intro e;exact hy (UInt8.toNat_inj.1 (by show s[n].toNat=10;omega))
     have hS3:Hid (S.side s.data.toList (n:Int)=if S.mark s[n]=true then 1 else 2):=hid (by rw[hS.out,if_neg (by rintro (h|h);exact hx h;exact hy h)])
     clear hx hy
     cases hm:S.mark s[n]
     ·rw[hm] at hM
      have hS4:Hid (S.side s.data.toList (n:Int)=2):=hid (by rw[hS3.out,hm];rfl)
      clear hm
      go_enter Tryz.func188,Tryz.ntmps188
      go_wp2_with (go_at_call 133;refine (hM.out _).mono ?_;rintro e w' ⟨rfl,rfl⟩)
      go_ret
      exact ⟨zal hS4.out.symm,rfl⟩
     ·rw[hm] at hM
      have hS4:Hid (S.side s.data.toList (n:Int)=1):=hid (by rw[hS3.out,hm];rfl)
      clear hm
      go_enter Tryz.func188,Tryz.ntmps188
      go_wp2_with (go_at_call 133;refine (hM.out _).mono ?_;rintro e w' ⟨rfl,rfl⟩)
      go_ret
      exact ⟨zal hS4.out.symm,rfl⟩
theorem has1 (l:List UInt8) (c:UInt8):Lib.hasPrefix l [c]=true↔l[0]?=some c:=by
 cases l with
 | nil=>simp[Lib.hasPrefix]
 | cons x r=>simp[Lib.hasPrefix];exact eq_comm
def tgt (l:List UInt8) (p:Nat):Nat:=if S.zd1 (l.drop p)=true then p+2+S.zb1 [40,41,60,62] (l.drop (p+1)) else 0
set_option maxHeartbeats 4000000 in
theorem zre (s:ByteArray) (p:Nat) (w:World) (hs:s.size≤1000000) (hp:p≤s.size) :
  Calls Tryz.prog 189 #[.string s,.int .i64 (p:Nat)] w fun e w'=>e = .returned (.int .i64 (tgt s.data.toList p:Nat))∧w=w':=by
 have hno:Hid (s.data.toList[p]?≠some 40→tgt s.data.toList p=0):=hid (fun h=>by
  unfold tgt S.zd1
  rw[if_neg]
  rw[Bool.and_eq_true,has1,List.getElem?_drop,Nat.add_zero]
  exact fun h2=>h h2.1)
 by_cases hlt:p<s.size
 ·have hg:=S.zaf s p hlt
  have hI:¬ (s.size:Int)≤(p:Int):=by omega
  by_cases hc:s[p]=40
  ·have h1:((s[p].toNat:Int) != 40)=false:=by simp[hc]
   have hyes:Hid (tgt s.data.toList p=if s.data.toList[p+1+S.zb1 [40,41,60,62] (s.data.toList.drop (p+1))]?=some 41 then p+2+S.zb1 [40,41,60,62] (s.data.toList.drop (p+1)) else 0):=hid (by
    unfold tgt S.zd1
    rw[List.drop_drop,List.drop_drop]
    have e:Lib.hasPrefix (s.data.toList.drop p) [40]=true:=by rw[has1,List.getElem?_drop,Nat.add_zero,hg,hc]
    rw[e,Bool.true_and,Nat.add_comm p 1,Nat.add_comm 1 p]
    have e2:(Lib.hasPrefix (s.data.toList.drop (p+(1+S.zb1 [40,41,60,62] (s.data.toList.drop (p+1))))) [41]=true)↔s.data.toList[p+1+S.zb1 [40,41,60,62] (s.data.toList.drop (p+1))]?=some 41:=by
     rw[has1,List.getElem?_drop,Nat.add_zero,Nat.add_assoc]
    by_cases h:s.data.toList[p+1+S.zb1 [40,41,60,62] (s.data.toList.drop (p+1))]?=some 41
    ·rw[if_pos h,if_pos (e2.2 h)]
    ·rw[if_neg h,if_neg (fun h2=>h (e2.1 h2))])
   clear hg hc
   go_enter Tryz.func189,Tryz.ntmps189
   go_wp2
   go_loop [5] (fun i=>∃ k:Nat,p+1+k≤s.size∧i = .int .i64 (((p+1+k:Nat)):Int)∧Hid (∀ j,j<k→∃ b,(s.data.toList.drop (p+1))[j]?=some b∧32<b.toNat∧b ∉ ([40,41,60,62]:List UInt8))) (fun i=>s.size-(intOf i).toNat)
   case atStart=>exact ⟨0,by omega,by go_num,hid (fun j hj=>by omega)⟩
   case round=>
    obtain ⟨k,hk,rfl,hall⟩:=hrel
    obtain ⟨n,hn⟩:∃ n,p+1+k=n:=⟨_,rfl⟩
    rw[hn] at hk ⊢
    have hnH:=hid hn
    clear hn
    by_cases hn2:n<s.size
    ·have hg:Hid (s.data.toList[n]?=some s[n]):=hid (S.zaf s n hn2)
     have hJ:(n:Int)<(s.size:Int):=by omega
     have hJ0:(0:Int)≤(n:Int):=by omega
     have hJe:((n:Int) == (s.size:Int))=false:=by rw[beq_eq_false_iff_ne];omega
     have hend:Hid (¬ (32<s[n].toNat∧s[n].toNat≠40∧s[n].toNat≠41∧s[n].toNat≠60∧s[n].toNat≠62)→S.zb1 [40,41,60,62] (s.data.toList.drop (p+1))=k):=hid (fun hbad=>by
      refine S.zdk _ _ k hall.out (fun b hb hc=>hbad ?_)
      rw[List.getElem?_drop,hnH.out,hg.out] at hb
      cases hb
      have h4:=hc.2
      simp only[List.mem_cons,List.not_mem_nil,or_false,not_or,← UInt8.toNat_inj] at h4
      exact ⟨hc.1,h4⟩)
     have hon:Hid ((32<s[n].toNat∧s[n].toNat≠40∧s[n].toNat≠41∧s[n].toNat≠60∧s[n].toNat≠62)→∀ j,j<k+1→∃ b,(s.data.toList.drop (p+1))[j]?=some b∧32<b.toNat∧b ∉ ([40,41,60,62]:List UInt8)):=hid (fun hgd j hj=>by
      by_cases e:j=k
      ·subst e
       refine ⟨s[n],by rw[List.getElem?_drop,hnH.out];exact hg.out,hgd.1,?_⟩
       simp only[List.mem_cons,List.not_mem_nil,or_false,not_or,← UInt8.toNat_inj]
       exact hgd.2
      ·exact hall.out j (by omega))
     have hres:Hid (S.zb1 [40,41,60,62] (s.data.toList.drop (p+1))=k→tgt s.data.toList p=if s[n].toNat=41 then n+1 else 0):=hid (fun hk9=>by
      rw[hyes.out,hk9,hnH.out,hg.out]
      have h41:(some s[n]=some (41:UInt8))↔s[n].toNat=41:=by
       rw[Option.some.injEq,← UInt8.toNat_inj];exact Iff.rfl
      by_cases e:s[n].toNat=41
      ·rw[if_pos e,if_pos (h41.2 e)];have:=hnH.out;omega
      ·rw[if_neg e,if_neg (fun h=>e (h41.1 h))])
     clear hall hyes hno
     rcases (by omega:(32<s[n].toNat∧s[n].toNat≠40∧s[n].toNat≠41∧s[n].toNat≠60∧s[n].toNat≠62)∨s[n].toNat≤32∨s[n].toNat=40∨s[n].toNat=60∨s[n].toNat=62∨s[n].toNat=41) with h|h|h|h|h|h
     ·have e1:((s[n].toNat:Int) != 40)=true:=by rw[bne_iff_ne];omega
      have e2:((s[n].toNat:Int) != 41)=true:=by rw[bne_iff_ne];omega
      have e3:((s[n].toNat:Int) != 60)=true:=by rw[bne_iff_ne];omega
      have e4:((s[n].toNat:Int) != 62)=true:=by rw[bne_iff_ne];omega
      have hon2:=hid (hon.out h)
      have e0:(32:Int)<(s[n].toNat:Int):=by omega
      clear h
      go_wp2
      exact ⟨⟨k+1,by have:=hnH.out;omega,by have:=hnH.out;go_num,hon2⟩,by simp[intOf];omega⟩
     ·have e2:((s[n].toNat:Int) != 41)=true:=by rw[bne_iff_ne];omega
      have hz:=hid ((hres.out (hend.out (by omega))).trans (if_neg (by omega)))
      have e0:¬ (32:Int)<(s[n].toNat:Int):=by omega
      clear h
      go_wp2
      go_ret
      exact ⟨zal (by rw[hz.out];rfl),rfl⟩
     ·have hz:=hid ((hres.out (hend.out (by omega))).trans (if_neg (by omega)))
      go_wp2
      go_ret
      exact ⟨zal (by rw[hz.out];rfl),rfl⟩
     ·have hz:=hid ((hres.out (hend.out (by omega))).trans (if_neg (by omega)))
      go_wp2
      go_ret
      exact ⟨zal (by rw[hz.out];rfl),rfl⟩
     ·have hz:=hid ((hres.out (hend.out (by omega))).trans (if_neg (by omega)))
      go_wp2
      go_ret
      exact ⟨zal (by rw[hz.out];rfl),rfl⟩
     ·have hz:=hid ((hres.out (hend.out (by omega))).trans (if_pos h))
      go_wp2
      go_ret
      exact ⟨zal (by rw[hz.out];go_num),rfl⟩
    ·have hne:n=s.size:=by omega
     have hz:Hid (tgt s.data.toList p=0):=hid (by
      have h1:S.zb1 [40,41,60,62] (s.data.toList.drop (p+1))=k:=S.zdk _ _ k hall.out (fun b hb=>by
       rw[List.getElem?_drop,hnH.out,List.getElem?_eq_none (by rw[S.length_data];omega)] at hb;cases hb)
      rw[hyes.out,h1,hnH.out,List.getElem?_eq_none (by rw[S.length_data];omega)];rfl)
     have hJ:¬ (n:Int)<(s.size:Int):=by omega
     have hJe:((n:Int) == (s.size:Int))=true:=by rw[beq_iff_eq];omega
     clear hne
     go_wp2
     go_ret
     exact ⟨zal (by rw[hz.out];rfl),rfl⟩
  ·have h1:((s[p].toNat:Int) != 40)=true:=by
    rw[bne_iff_ne];intro h;exact hc (UInt8.toNat_inj.1 (by show s[p].toNat=40;omega))
   have hz:=hid (hno.out (by rw[hg];simpa using hc))
   clear hg hc
   go_enter Tryz.func189,Tryz.ntmps189
   go_wp2
   go_ret
   exact ⟨zal (by rw[hz.out];rfl),rfl⟩
 ·have hI:(s.size:Int)≤(p:Int):=by omega
  have hz:=hid (hno.out (by rw[List.getElem?_eq_none (by rw[S.length_data];omega)];simp))
  go_enter Tryz.func189,Tryz.ntmps189
  go_wp2
  go_ret
  exact ⟨zal (by rw[hz.out];rfl),rfl⟩
end Go.Proofs.YtlojgpkajkedeaaGreatDoor
