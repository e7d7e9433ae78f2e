import Derived.Test.YtlojgpkajkedeaaGreatDoorMRU
namespace Go.Proofs.YtlojgpkajkedeaaGreatDoor
open Go.RowKit
def ang (l:List UInt8) (p:Nat):Nat:=if S.zd9 (l.drop p)=true then p+S.zdc (l.drop p)+1 else 0
theorem z0k (l:List UInt8) (p L:Nat) (hL:S.letters (l.drop (p+1))=L) (h:L<2∨8<L∨l[p+1+L]?≠some 58):ang l p=0:=by
 unfold ang S.zd9 S.zn1 S.colon
 rw[List.drop_drop,Nat.add_comm p 1,Nat.add_comm 1 p,hL,List.drop_drop,if_neg]
 rw[Bool.and_eq_true,Bool.not_eq_true',Bool.or_eq_false_iff,Bool.or_eq_false_iff,Bool.not_eq_false',has1,List.getElem?_drop,Nat.add_zero,decide_eq_false_iff_not,decide_eq_false_iff_not,← Nat.add_assoc]
 rintro ⟨⟨⟨h1,h2⟩,h3⟩,_⟩
 rcases h with h|h|h
 ·exact h1 h
 ·exact h2 h
 ·exact h h3
theorem zxm (l:List UInt8) (p L A:Nat) (hL:S.letters (l.drop (p+1))=L) (h1:¬ L<2) (h2:¬ 8<L) (h3:l[p+1+L]?=some 58) (hA:S.zb1 [60,62] (l.drop (p+1+L))=A):ang l p=if l[p+1+L+A]?=some 62 then p+1+L+A+1 else 0:=by
 have e1:S.colon (l.drop p)=1+L:=by unfold S.colon;rw[List.drop_drop,Nat.add_comm p 1,Nat.add_comm 1 p,hL]
 have e2:S.zdc (l.drop p)=1+L+A:=by unfold S.zdc;rw[e1,List.drop_drop,← Nat.add_assoc,hA]
 have e3:S.zn1 (l.drop p)=false:=by
  unfold S.zn1
  rw[e1,List.drop_drop,List.drop_drop,hL,Bool.or_eq_false_iff,Bool.or_eq_false_iff,Bool.not_eq_false',has1,List.getElem?_drop,Nat.add_zero,decide_eq_false_iff_not,decide_eq_false_iff_not,← Nat.add_assoc]
  exact ⟨⟨h1,h2⟩,h3⟩
 have e4:(Lib.hasPrefix ((l.drop p).drop (1+L+A)) [62]=true)↔l[p+1+L+A]?=some 62:=by
  rw[has1,List.drop_drop,List.getElem?_drop,Nat.add_zero,← Nat.add_assoc,← Nat.add_assoc]
 unfold ang S.zd9
 rw[e3,e2,Bool.not_false,Bool.true_and]
 by_cases h:l[p+1+L+A]?=some 62
 ·rw[if_pos h,if_pos (e4.2 h)];omega
 ·rw[if_neg h,if_neg (fun h2=>h (e4.1 h2))]
set_option maxHeartbeats 4000000 in
theorem zpd (s:ByteArray) (p:Nat) (w:World) (hs:s.size≤1000000) (hp:p<s.size) :
  Calls Tryz.prog 137 #[.string s,.int .i64 (p:Nat)] w fun e w'=>e = .returned (.int .i64 (ang s.data.toList p:Nat))∧w=w':=by
 obtain ⟨L,hL⟩:∃ L,S.letters (s.data.toList.drop (p+1))=L:=⟨_,rfl⟩
 have hLl:p+1+L≤s.size:=by
  have:=S.zn0 (s.data.toList.drop (p+1))
  rw[hL,List.length_drop,S.length_data] at this;omega
 have hLH:=hid hL
 clear hL
 go_enter Tryz.func137,Tryz.ntmps137
 go_wp2
 go_loop [5] (fun i=>∃ k:Nat,p+1+k≤s.size∧i = .int .i64 (((p+1+k:Nat)):Int)∧Hid (∀ j,j<k→((s.data.toList.drop (p+1))[j]?.map S.letter)=some true)) (fun i=>s.size-(intOf i).toNat)
 case atStart=>exact ⟨0,by omega,by go_num,hid (fun j hj=>by omega)⟩
 case round=>
 obtain ⟨k,hk,rfl,hall⟩:=hrel
 obtain ⟨N,hN⟩:∃ n,p+1+k=n:=⟨_,rfl⟩
 rw[hN] at hk ⊢
 have hnH:=hid hN
 clear hN
 have hJ0:(0:Int)≤(N:Int):=by omega
 by_cases hgd:∃ h:N<s.size,S.letter s[N]=true
 ·obtain ⟨hn2,hle⟩:=hgd
  have hJ:(N:Int)<(s.size:Int):=by omega
  have hon2:Hid (∀ j,j<k+1→((s.data.toList.drop (p+1))[j]?.map S.letter)=some true):=hid (fun j hj=>by
   by_cases e:j=k
   ·subst e;rw[List.getElem?_drop,hnH.out,S.zaf s N hn2,Option.map_some,hle]
   ·exact hall.out j (by omega))
  have h:(97≤s[N].toNat∧s[N].toNat≤122)∨(65≤s[N].toNat∧s[N].toNat≤90):=by unfold S.letter at hle;simpa using hle
  clear hall hle
  rcases h with h|h
  ·go_wp2
   exact ⟨⟨k+1,by have:=hnH.out;omega,by have:=hnH.out;go_num,hon2⟩,by simp[intOf];omega⟩
  ·by_cases h9:97≤s[N].toNat
   ·omega
   go_wp2
   exact ⟨⟨k+1,by have:=hnH.out;omega,by have:=hnH.out;go_num,hon2⟩,by simp[intOf];omega⟩
 have hz:Hid (L=k):=hid (by
  rw[← hLH.out]
  refine S.zjo _ k hall.out ?_
  rw[List.getElem?_drop,hnH.out]
  by_cases hn2:N<s.size
  ·rw[S.zaf s N hn2,Option.map_some]
   intro e;exact hgd ⟨hn2,Option.some.inj e⟩
  ·rw[List.getElem?_eq_none (by rw[S.length_data];omega)];simp)
 have hgdH:=hid hgd
 clear hall hgd
 go_upto_region 2 with fail
 go_cut [35] (fun s35 wx=>s35 = .bool false∧w=wx)
 case first=>
  by_cases hn2:N<s.size
  ·have hJ:(N:Int)<(s.size:Int):=by omega
   have hnl:¬ ((97≤s[N].toNat∧s[N].toNat≤122)∨(65≤s[N].toNat∧s[N].toNat≤90)):=fun h=>hgdH.out ⟨hn2,by unfold S.letter;simpa using h⟩
   rcases (by omega:s[N].toNat<65∨(90<s[N].toNat∧s[N].toNat<97)∨122<s[N].toNat) with h|h|h
   all_goals (clear hnl;go_wp2;go_meet;exact ⟨by first|rfl|(congr 1;simp;omega),rfl⟩)
  ·have hJ:¬ (N:Int)<(s.size:Int):=by omega
   go_wp2
   go_meet
   exact ⟨rfl,rfl⟩
 case rest=>
 obtain ⟨rfl,rfl⟩:=hcut
 have hNH:Hid (p+1+L=N):=hid (by rw[hz.out];exact hnH.out)
 obtain ⟨D,hD⟩:∃ D,L+1=D:=⟨_,rfl⟩
 have hw1:IntKind.i64.wrap ((N:Int)-(p:Int))=(D:Int):=by have:=hNH.out;rw[IntKind.wrap_i64];omega
 have hw2:(N:Int)-(p:Int)=(D:Int):=by have:=hNH.out;omega
 have hDH:=hid hD
 have hbad:Hid ((D<3∨9<D∨s.data.toList[N]?≠some 58)→ang s.data.toList p=0):=hid (fun h=>z0k _ p L hLH.out (by rw[hNH.out];rcases h with h|h|h;exact .inl (by omega);exact .inr (.inl (by omega));exact .inr (.inr h)))
 have hLl:N≤s.size:=hk
 clear hD hgdH
 by_cases h1:D<3
 ·have hz:=hid (hbad.out (.inl h1))
  have hJ:(D:Int)<3:=by omega
  clear hbad
  go_wp2
  go_ret
  exact ⟨zal (by rw[hz.out];rfl),rfl⟩
 have hJ1:¬ (D:Int)<3:=by omega
 by_cases h2:9<D
 ·have hz:=hid (hbad.out (.inr (.inl h2)))
  have hJ:(9:Int)<(D:Int):=by omega
  clear hbad
  go_wp2
  go_ret
  exact ⟨zal (by rw[hz.out];rfl),rfl⟩
 have hJ2:¬ (9:Int)<(D:Int):=by omega
 by_cases h3:N<s.size
 ·have hg:=S.zaf s N h3
  have hJ3:(N:Int)<(s.size:Int):=by omega
  have hJ4:((N:Int) == (s.size:Int))=false:=by rw[beq_eq_false_iff_ne];omega
  by_cases hc:s[N]=58
  ·have e1:((s[N].toNat:Int) != 58)=false:=by simp[hc]
   obtain ⟨A,hA⟩:∃ A,S.zb1 [60,62] (s.data.toList.drop N)=A:=⟨_,rfl⟩
   have hgood:Hid (ang s.data.toList p=if s.data.toList[N+A]?=some 62 then N+A+1 else 0):=hid (by
    have:=zxm s.data.toList p L A hLH.out (by have:=hDH.out;omega) (by have:=hDH.out;omega) (by rw[hNH.out,hg,hc]) (by rw[hNH.out];exact hA)
    rw[hNH.out] at this;exact this)
   have hAH:=hid hA
   clear hbad hg hc hA
   go_upto_region 6 with fail
   go_loop [5] (fun i=>∃ k:Nat,N+k≤s.size∧i = .int .i64 (((N+k:Nat)):Int)∧Hid (∀ j,j<k→∃ b,(s.data.toList.drop N)[j]?=some b∧32<b.toNat∧b ∉ ([60,62]:List UInt8))) (fun i=>s.size-(intOf i).toNat)
   case atStart=>exact ⟨0,by omega,by go_num,hid (fun j hj=>by omega)⟩
   case round=>
    obtain ⟨k,hk,rfl,hall⟩:=hrel
    obtain ⟨n,hn⟩:∃ n,N+k=n:=⟨_,rfl⟩
    rw[hn] at hk ⊢
    have hnH:=hid hn
    clear hn hJ4 e1
    by_cases hn2:n<s.size
    ·have hg:Hid (s.data.toList[n]?=some s[n]):=hid (S.zaf s n hn2)
     have hJ:(n:Int)<(s.size:Int):=by omega
     have hJ0:(0:Int)≤(n:Int):=by omega
     have hJe:((n:Int) == (s.size:Int))=false:=by rw[beq_eq_false_iff_ne];omega
     have hend:Hid (¬ (32<s[n].toNat∧s[n].toNat≠60∧s[n].toNat≠62)→A=k):=hid (fun hbad=>by
      rw[← hAH.out]
      refine S.zdk _ _ k hall.out (fun b hb hc=>hbad ?_)
      rw[List.getElem?_drop,hnH.out,hg.out] at hb
      cases hb
      have h4:=hc.2
      simp only[List.mem_cons,List.not_mem_nil,or_false,not_or,← UInt8.toNat_inj] at h4
      exact ⟨hc.1,h4⟩)
     have hon:Hid ((32<s[n].toNat∧s[n].toNat≠60∧s[n].toNat≠62)→∀ j,j<k+1→∃ b,(s.data.toList.drop N)[j]?=some b∧32<b.toNat∧b ∉ ([60,62]:List UInt8)):=hid (fun hgd j hj=>by
      by_cases e:j=k
      ·subst e
       refine ⟨s[n],by rw[List.getElem?_drop,hnH.out];exact hg.out,hgd.1,?_⟩
       simp only[List.mem_cons,List.not_mem_nil,or_false,not_or,← UInt8.toNat_inj]
       exact hgd.2
      ·exact hall.out j (by omega))
     have hres:Hid (A=k→ang s.data.toList p=if s[n].toNat=62 then n+1 else 0):=hid (fun hk9=>by
      rw[hgood.out,hk9,hnH.out,hg.out]
      have h41:(some s[n]=some (62:UInt8))↔s[n].toNat=62:=by
       rw[Option.some.injEq,← UInt8.toNat_inj];exact Iff.rfl
      by_cases e:s[n].toNat=62
      ·rw[if_pos e,if_pos (h41.2 e)]
      ·rw[if_neg e,if_neg (fun h=>e (h41.1 h))])
     clear hall hgood
     rcases (by omega:(32<s[n].toNat∧s[n].toNat≠60∧s[n].toNat≠62)∨s[n].toNat≤32∨s[n].toNat=60∨s[n].toNat=62) with h|h|h|h
     ·have e3:((s[n].toNat:Int) != 60)=true:=by rw[bne_iff_ne];omega
      have e4:((s[n].toNat:Int) != 62)=true:=by rw[bne_iff_ne];omega
      have hon2:=hid (hon.out h)
      have e0:(32:Int)<(s[n].toNat:Int):=by omega
      clear h
      go_wp2
      exact ⟨⟨k+1,by have:=hnH.out;omega,by have:=hnH.out;go_num,hon2⟩,by simp[intOf];omega⟩
     ·have e2:((s[n].toNat:Int) != 62)=true:=by rw[bne_iff_ne];omega
      have hz:=hid ((hres.out (hend.out (by omega))).trans (if_neg (by omega)))
      have e0:¬ (32:Int)<(s[n].toNat:Int):=by omega
      clear h
      go_wp2
      go_ret
      exact ⟨zal (by rw[hz.out];rfl),rfl⟩
     ·have hz:=hid ((hres.out (hend.out (by omega))).trans (if_neg (by omega)))
      go_wp2
      go_ret
      exact ⟨zal (by rw[hz.out];rfl),rfl⟩
     ·have hz:=hid ((hres.out (hend.out (by omega))).trans (if_pos h))
      go_wp2
      go_ret
      exact ⟨zal (by rw[hz.out];go_num),rfl⟩
    ·have hne:n=s.size:=by omega
     have hz:Hid (ang s.data.toList p=0):=hid (by
      have h1:A=k:=hAH.out.symm.trans (S.zdk _ _ k hall.out (fun b hb=>by
       rw[List.getElem?_drop,hnH.out,List.getElem?_eq_none (by rw[S.length_data];omega)] at hb;cases hb))
      rw[hgood.out,h1,hnH.out,List.getElem?_eq_none (by rw[S.length_data];omega)];rfl)
     have hJ:¬ (n:Int)<(s.size:Int):=by omega
     have hJe:((n:Int) == (s.size:Int))=true:=by rw[beq_iff_eq];omega
     clear hne
     go_wp2
     go_ret
     exact ⟨zal (by rw[hz.out];rfl),rfl⟩
  ·have e1:((s[N].toNat:Int) != 58)=true:=by
    rw[bne_iff_ne];intro h;exact hc (UInt8.toNat_inj.1 (by show s[N].toNat=58;omega))
   have hz:=hid (hbad.out (.inr (.inr (by rw[hg];simpa using hc))))
   clear hbad hg hc
   go_wp2
   go_ret
   exact ⟨zal (by rw[hz.out];rfl),rfl⟩
 ·have hz:=hid (hbad.out (.inr (.inr (by rw[List.getElem?_eq_none (by rw[S.length_data];omega)];simp))))
  have hJ3:(N:Int)=(s.size:Int):=by omega
  have hJ4:((N:Int) == (s.size:Int))=true:=by rw[beq_iff_eq];omega
  clear hbad
  go_wp2
  go_ret
  exact ⟨zal (by rw[hz.out];rfl),rfl⟩
end Go.Proofs.YtlojgpkajkedeaaGreatDoor
