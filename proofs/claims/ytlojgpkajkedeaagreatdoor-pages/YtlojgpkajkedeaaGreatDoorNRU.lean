import Derived.Test.YtlojgpkajkedeaaGreatDoorND4
import Derived.Test.YtlojgpkajkedeaaGreatDoorNRA
set_option maxHeartbeats 16000000
set_option maxRecDepth 100000
namespace Go.Proofs.YtlojgpkajkedeaaGreatDoor
open Go.RowKit Go.Proofs.Tryz
theorem zr2 (b:UInt8)(w:World):Calls prog 133 #[.int .u8 (b.toNat:Int)] w λe w'=>e=.returned (.bool (S.mark b))/\w=w':=by
 obtain⟨n,hn⟩:=Qyy (b.toNat);have hL:Hid (S.mark b=(((decide (32<n)&&decide (n<=126))&&!((decide (97<=n)&&decide (n<=122))||(decide (65<=n)&&decide (n<=90))))&&(decide (n<48)||decide (57<n)))):=hid (by unfold S.mark S.letter;rw[hn]);rw[hn,hL.out];clear hn hL;rcases (by omega:n<33\/(33<=n/\n<=47)\/(48<=n/\n<=57)\/(58<=n/\n<=64)\/(65<=n/\n<=90)\/(91<=n/\n<=96)\/(97<=n/\n<=122)\/(123<=n/\n<=126)\/127<=n) with h|h|h|h|h|h|h|h|h
 all_goals (
  go_enter func133,ntmps133;go_wp2;go_ret;exact⟨zb1 (by rw[Bool.eq_iff_iff];simp;omega),rfl⟩)
theorem zli (s:ByteArray)(k:Int)(w:World)(h1 : -1<=k)(h2:k<=s.size):Calls prog 188 #[.string s,.int .i64 k] w λe w'=>e=.returned (.int .i64 (S.side s.data.toList k))/\w=w':=by
 by_cases h0:k<0
 ·have hS:Hid (S.side s.data.toList k=0):=hid (by unfold S.side;rw[if_pos (.inl h0)]);go_enter func188,ntmps188;go_wp2;go_ret;exact⟨zak hS.out.symm,rfl⟩
 ·obtain⟨n,rfl⟩:∃n:Nat,k=n:=⟨k.toNat,by omega⟩;by_cases hn:n=s.size
  ·have hS:Hid (S.side s.data.toList (n:Int)=0):=hid (by unfold S.side;rw[if_pos (.inr (by rw[S.lda];omega))]);subst hn;go_enter func188,ntmps188;go_wp2;go_ret;exact⟨zak hS.out.symm,rfl⟩
  ·have hlt:n<s.size:=by omega
   have hg:=S.zad s n hlt;have hM:=hid (λwx=>zr2 s[n] wx);have hS:Hid (S.side s.data.toList (n:Int)=if s[n]=32\/s[n]=10 then 0 else if S.mark s[n]=true then 1 else 2):=hid (by
    unfold S.side;rw[if_neg (by rw[S.lda];omega),Int.toNat_natCast,hg])
   have hne:¬(s.size:Int)<=(n:Int):=by omega
   clear hg;by_cases hx:s[n]=32
   ·have hxn:s[n].toNat=32:=(by rw[hx];rfl);have hS2:Hid (S.side s.data.toList (n:Int)=0):=hid (by rw[hS.out,if_pos (.inl hx)]);clear hx;go_enter func188,ntmps188;go_wp2;go_ret;exact⟨zak hS2.out.symm,rfl⟩
   ·have hxb:(((s[n].toNat:Nat):Int) == 32)=false:=by
     rw[Qe];intro e;exact hx (Qk.1 (by show s[n].toNat=32;omega))
    by_cases hy:s[n]=10
    ·have hyn:s[n].toNat=10:=(by rw[hy];rfl);have hS2:Hid (S.side s.data.toList (n:Int)=0):=hid (by rw[hS.out,if_pos (.inr hy)]);clear hx hy hxb;go_enter func188,ntmps188;go_wp2;go_ret;exact⟨zak hS2.out.symm,rfl⟩
    ·have hyb:(((s[n].toNat:Nat):Int) == 10)=false:=by
      rw[Qe];intro e;exact hy (Qk.1 (by show s[n].toNat=10;omega))
     have dh:Hid (S.side s.data.toList (n:Int)=if S.mark s[n]=true then 1 else 2):=hid (by rw[hS.out,if_neg (by rintro(h|h);exact hx h;exact hy h)])
     clear hx hy;cases hm:S.mark s[n]
     ·rw[hm] at hM;have bg:Hid (S.side s.data.toList (n:Int)=2):=hid (by rw[dh.out,hm];rfl);clear hm;go_enter func188,ntmps188;go_wp2_with (go_at_call 133;refine(hM.out _).mono ?_;rintro e w'⟨rfl,rfl⟩)
      go_ret;exact⟨zak bg.out.symm,rfl⟩
     ·rw[hm] at hM;have bg:Hid (S.side s.data.toList (n:Int)=1):=hid (by rw[dh.out,hm];rfl);clear hm;go_enter func188,ntmps188;go_wp2_with (go_at_call 133;refine(hM.out _).mono ?_;rintro e w'⟨rfl,rfl⟩)
      go_ret;exact⟨zak bg.out.symm,rfl⟩
theorem has1 (l:List UInt8)(c:UInt8):Lib.hasPrefix l [c]=true↔l[0]?=some c:=by
 cases l with
 | nil=>simp[Lib.hasPrefix]
 | cons x r=>simp[Lib.hasPrefix];exact eq_comm
def tgt (l:List UInt8)(p:Nat):Nat:=if S.zd5 (l.drop p)=true then p+2+S.zb5 [40,41,60,62] (l.drop (p+1)) else 0
theorem zt6 (s:ByteArray)(p:Nat)(w:World)(hs:s.size<=1000000)(hp:p<=s.size):Calls prog 189 #[.string s,.int .i64 (p:Nat)] w λe w'=>e=.returned (.int .i64 (tgt s.data.toList p:Nat))/\w=w':=by
 have hno:Hid (s.data.toList[p]?≠some 40->tgt s.data.toList p=0):=hid (λh=>by
  unfold tgt S.zd5;rw[if_neg];rw[Bool.and_eq_true,has1,Qn,Nat.add_zero];exact λh2=>h h2.1)
 by_cases hlt:p<s.size
 ·have hg:=S.zad s p hlt;have hI:¬(s.size:Int)<=(p:Int):=by omega
  by_cases hc:s[p]=40
  ·have h1:((s[p].toNat:Int) != 40)=false:=by simp[hc]
   have hyes:Hid (tgt s.data.toList p=if s.data.toList[p+1+S.zb5 [40,41,60,62] (s.data.toList.drop (p+1))]?=some 41 then p+2+S.zb5 [40,41,60,62] (s.data.toList.drop (p+1)) else 0):=hid (by
    unfold tgt S.zd5;rw[Qbb,Qbb];have e:Lib.hasPrefix (s.data.toList.drop p) [40]=true:=(by rw[has1,Qn,Nat.add_zero,hg,hc]);rw[e,Bool.true_and,Nat.add_comm p 1,Nat.add_comm 1 p];have e2:(Lib.hasPrefix (s.data.toList.drop (p+(1+S.zb5 [40,41,60,62] (s.data.toList.drop (p+1))))) [41]=true)↔s.data.toList[p+1+S.zb5 [40,41,60,62] (s.data.toList.drop (p+1))]?=some 41:=by
     rw[has1,Qn,Nat.add_zero,Nat.add_assoc]
    by_cases h:s.data.toList[p+1+S.zb5 [40,41,60,62] (s.data.toList.drop (p+1))]?=some 41
    ·rw[if_pos h,if_pos (e2.2 h)]
    ·rw[if_neg h,if_neg (λh2=>h (e2.1 h2))])
   clear hg hc;go_enter func189,ntmps189;go_wp2;go_loop [5] (λi=>∃k:Nat,p+1+k<=s.size/\i=.int .i64 (((p+1+k:Nat)):Int)/\Hid (∀j,j<k->∃b,(s.data.toList.drop (p+1))[j]?=some b/\32<b.toNat/\b ∉ ([40,41,60,62]:List UInt8))) (λi=>s.size-(intOf i).toNat)
   case atStart=>exact⟨0,by omega,by go_num,hid (λj hj=>by omega)⟩
   case round=>
    obtain⟨k,hk,rfl,hall⟩:=hrel;obtain⟨n,hn⟩:=Qyy (p+1+k);rw[hn] at hk ⊢;have bg:=hid hn;clear hn;by_cases hn2:n<s.size
    ·have hg:Hid (s.data.toList[n]?=some s[n]):=hid (S.zad s n hn2);have hJ:(n:Int)<(s.size:Int):=(by omega);have hJ0:(0:Int)<=(n:Int):=(by omega);have hJe:((n:Int) == (s.size:Int))=false:=(by rw[Qe];omega);have hend:Hid (¬(32<s[n].toNat/\s[n].toNat≠40/\s[n].toNat≠41/\s[n].toNat≠60/\s[n].toNat≠62)->S.zb5 [40,41,60,62] (s.data.toList.drop (p+1))=k):=hid (λhbad=>by
      refine S.zdo _ _ k hall.out (λb hb hc=>hbad ?_);rw[Qn,bg.out,hg.out] at hb;cases hb
      have h4:=hc.2;simp only[List.mem_cons,List.not_mem_nil,or_false,not_or,<-Qk] at h4;exact⟨hc.1,h4⟩)
     have hon:Hid ((32<s[n].toNat/\s[n].toNat≠40/\s[n].toNat≠41/\s[n].toNat≠60/\s[n].toNat≠62)->∀j,j<k+1->∃b,(s.data.toList.drop (p+1))[j]?=some b/\32<b.toNat/\b ∉ ([40,41,60,62]:List UInt8)):=hid (λhgd j hj=>by
      by_cases e:j=k
      ·subst e;refine⟨s[n],by rw[Qn,bg.out];exact hg.out,hgd.1,?_⟩;simp only[List.mem_cons,List.not_mem_nil,or_false,not_or,<-Qk];exact hgd.2
      ·exact hall.out j (by omega))
     have hres:Hid (S.zb5 [40,41,60,62] (s.data.toList.drop (p+1))=k->tgt s.data.toList p=if s[n].toNat=41 then n+1 else 0):=hid (λhk9=>by
      rw[hyes.out,hk9,bg.out,hg.out];have dw:(some s[n]=some (41:UInt8))↔s[n].toNat=41:=by
       rw[Option.some.injEq,<-Qk];exact Iff.rfl
      by_cases e:s[n].toNat=41
      ·rw[if_pos e,if_pos (dw.2 e)];have:=bg.out;omega
      ·rw[if_neg e,if_neg (λh=>e (dw.1 h))])
     clear hall hyes hno;rcases (by omega:(32<s[n].toNat/\s[n].toNat≠40/\s[n].toNat≠41/\s[n].toNat≠60/\s[n].toNat≠62)\/s[n].toNat<=32\/s[n].toNat=40\/s[n].toNat=60\/s[n].toNat=62\/s[n].toNat=41) with h|h|h|h|h|h
     ·have e1:((s[n].toNat:Int) != 40)=true:=(by rw[bne_iff_ne];omega);have e2:((s[n].toNat:Int) != 41)=true:=(by rw[bne_iff_ne];omega);have e3:((s[n].toNat:Int) != 60)=true:=(by rw[bne_iff_ne];omega);have e4:((s[n].toNat:Int) != 62)=true:=(by rw[bne_iff_ne];omega);have dh:=hid (hon.out h);have e0:(32:Int)<(s[n].toNat:Int):=(by omega);clear h;go_wp2;exact⟨⟨k+1,by have:=bg.out;omega,by have:=bg.out;go_num,dh⟩,by simp[intOf];omega⟩
     ·have e2:((s[n].toNat:Int) != 41)=true:=(by rw[bne_iff_ne];omega);have hz:=hid ((hres.out (hend.out (by omega))).trans (if_neg (by omega)));have e0:¬(32:Int)<(s[n].toNat:Int):=(by omega);clear h;go_wp2;go_ret;exact⟨zak (by rw[hz.out];rfl),rfl⟩
     ·have hz:=hid ((hres.out (hend.out (by omega))).trans (if_neg (by omega)));go_wp2;go_ret;exact⟨zak (by rw[hz.out];rfl),rfl⟩
     ·have hz:=hid ((hres.out (hend.out (by omega))).trans (if_neg (by omega)));go_wp2;go_ret;exact⟨zak (by rw[hz.out];rfl),rfl⟩
     ·have hz:=hid ((hres.out (hend.out (by omega))).trans (if_neg (by omega)));go_wp2;go_ret;exact⟨zak (by rw[hz.out];rfl),rfl⟩
     ·have hz:=hid ((hres.out (hend.out (by omega))).trans (if_pos h));go_wp2;go_ret;exact⟨zak (by rw[hz.out];go_num),rfl⟩
    ·have hne:n=s.size:=(by omega);have hz:Hid (tgt s.data.toList p=0):=hid (by
      have h1:S.zb5 [40,41,60,62] (s.data.toList.drop (p+1))=k:=S.zdo _ _ k hall.out (λb hb=>by
       rw[Qn,bg.out,Qr (by rw[S.lda];omega)] at hb;cases hb)
      rw[hyes.out,h1,bg.out,Qr (by rw[S.lda];omega)];rfl)
     have hJ:¬(n:Int)<(s.size:Int):=(by omega);have hJe:((n:Int) == (s.size:Int))=true:=(by rw[beq_iff_eq];omega);clear hne;go_wp2;go_ret;exact⟨zak (by rw[hz.out];rfl),rfl⟩
  ·have h1:((s[p].toNat:Int) != 40)=true:=by
    rw[bne_iff_ne];intro h;exact hc (Qk.1 (by show s[p].toNat=40;omega))
   have hz:=hid (hno.out (by rw[hg];simpa using hc));clear hg hc;go_enter func189,ntmps189;go_wp2;go_ret;exact⟨zak (by rw[hz.out];rfl),rfl⟩
 ·have hI:(s.size:Int)<=(p:Int):=by omega
  have hz:=hid (hno.out (by rw[Qr (by rw[S.lda];omega)];simp));go_enter func189,ntmps189;go_wp2;go_ret;exact⟨zak (by rw[hz.out];rfl),rfl⟩
def ang (l:List UInt8)(p:Nat):Nat:=if S.zdb (l.drop p)=true then p+S.zdf (l.drop p)+1 else 0
theorem z3y (l:List UInt8)(p L:Nat)(hL:S.letters (l.drop (p+1))=L)(h:L<2\/8<L\/l[p+1+L]?≠some 58):ang l p=0:=by
 unfold ang S.zdb S.zo5 S.colon;rw[Qbb,Nat.add_comm p 1,Nat.add_comm 1 p,hL,Qbb,if_neg];rw[Bool.and_eq_true,Bool.not_eq_true',Bool.or_eq_false_iff,Bool.or_eq_false_iff,Bool.not_eq_false',has1,Qn,Nat.add_zero,decide_eq_false_iff_not,decide_eq_false_iff_not,<-Nat.add_assoc];rintro⟨⟨⟨h1,h2⟩,h3⟩,_⟩;rcases h with h|h|h
 ·exact h1 h
 ·exact h2 h
 ·exact h h3
theorem z0v (l:List UInt8)(p L A:Nat)(hL:S.letters (l.drop (p+1))=L)(h1:¬L<2)(h2:¬8<L)(h3:l[p+1+L]?=some 58)(hA:S.zb5 [60,62] (l.drop (p+1+L))=A):ang l p=if l[p+1+L+A]?=some 62 then p+1+L+A+1 else 0:=by
 have e1:S.colon (l.drop p)=1+L:=by unfold S.colon;rw[Qbb,Nat.add_comm p 1,Nat.add_comm 1 p,hL]
 have e2:S.zdf (l.drop p)=1+L+A:=by unfold S.zdf;rw[e1,Qbb,<-Nat.add_assoc,hA]
 have e3:S.zo5 (l.drop p)=false:=by
  unfold S.zo5;rw[e1,Qbb,Qbb,hL,Bool.or_eq_false_iff,Bool.or_eq_false_iff,Bool.not_eq_false',has1,Qn,Nat.add_zero,decide_eq_false_iff_not,decide_eq_false_iff_not,<-Nat.add_assoc];exact⟨⟨h1,h2⟩,h3⟩
 have e4:(Lib.hasPrefix ((l.drop p).drop (1+L+A)) [62]=true)↔l[p+1+L+A]?=some 62:=by
  rw[has1,Qbb,Qn,Nat.add_zero,<-Nat.add_assoc,<-Nat.add_assoc]
 unfold ang S.zdb;rw[e3,e2,Bool.not_false,Bool.true_and];by_cases h:l[p+1+L+A]?=some 62
 ·rw[if_pos h,if_pos (e4.2 h)];omega
 ·rw[if_neg h,if_neg (λh2=>h (e4.1 h2))]
theorem zri (s:ByteArray)(p:Nat)(w:World)(hs:s.size<=1000000)(hp:p<s.size):Calls prog 137 #[.string s,.int .i64 (p:Nat)] w λe w'=>e=.returned (.int .i64 (ang s.data.toList p:Nat))/\w=w':=by
 obtain⟨L,hL⟩:=Qyy (S.letters (s.data.toList.drop (p+1)));have jh:p+1+L<=s.size:=by
  have:=S.znn (s.data.toList.drop (p+1));rw[hL,Qf,S.lda] at this;omega
 have fq:=hid hL;clear hL;go_enter func137,ntmps137;go_wp2;go_loop [5] (λi=>∃k:Nat,p+1+k<=s.size/\i=.int .i64 (((p+1+k:Nat)):Int)/\Hid (∀j,j<k->((s.data.toList.drop (p+1))[j]?.map S.letter)=some true)) (λi=>s.size-(intOf i).toNat)
 case atStart=>exact⟨0,by omega,by go_num,hid (λj hj=>by omega)⟩
 case round=>
 obtain⟨k,hk,rfl,hall⟩:=hrel;obtain⟨N,hN⟩:∃n,p+1+k=n:=⟨_,rfl⟩;rw[hN] at hk ⊢;have bg:=hid hN;clear hN;have hJ0:(0:Int)<=(N:Int):=by omega
 by_cases hgd:∃h:N<s.size,S.letter s[N]=true
 ·obtain⟨hn2,hle⟩:=hgd;have hJ:(N:Int)<(s.size:Int):=by omega
  have dh:Hid (∀j,j<k+1->((s.data.toList.drop (p+1))[j]?.map S.letter)=some true):=hid (λj hj=>by
   by_cases e:j=k
   ·subst e;rw[Qn,bg.out,S.zad s N hn2,Option.map_some,hle]
   ·exact hall.out j (by omega))
  have h:(97<=s[N].toNat/\s[N].toNat<=122)\/(65<=s[N].toNat/\s[N].toNat<=90):=by unfold S.letter at hle;simpa using hle
  clear hall hle;rcases h with h|h
  ·go_wp2;exact⟨⟨k+1,by have:=bg.out;omega,by have:=bg.out;go_num,dh⟩,by simp[intOf];omega⟩
  ·by_cases h9:97<=s[N].toNat
   ·omega
   go_wp2;exact⟨⟨k+1,by have:=bg.out;omega,by have:=bg.out;go_num,dh⟩,by simp[intOf];omega⟩
 have hz:Hid (L=k):=hid (by
  rw[<-fq.out];refine S.zk4 _ k hall.out ?_;rw[Qn,bg.out];by_cases hn2:N<s.size
  ·rw[S.zad s N hn2,Option.map_some];intro e;exact hgd ⟨hn2,Qy e⟩
  ·rw[Qr (by rw[S.lda];omega)];simp)
 have dx:=hid hgd;clear hall hgd;go_upto_region 2 with fail
 go_cut [35] (λs35 wx=>s35=.bool false/\w=wx)
 case first=>
  by_cases hn2:N<s.size
  ·have hJ:(N:Int)<(s.size:Int):=by omega
   have hnl:¬((97<=s[N].toNat/\s[N].toNat<=122)\/(65<=s[N].toNat/\s[N].toNat<=90)):=λh=>dx.out ⟨hn2,by unfold S.letter;simpa using h⟩;rcases (by omega:s[N].toNat<65\/(90<s[N].toNat/\s[N].toNat<97)\/122<s[N].toNat) with h|h|h
   all_goals (clear hnl;go_wp2;go_meet;exact⟨by first|rfl|(congr 1;simp;omega),rfl⟩)
  ·have hJ:¬(N:Int)<(s.size:Int):=by omega
   go_wp2;go_meet;exact⟨rfl,rfl⟩
 case rest=>
 obtain⟨rfl,rfl⟩:=hcut;have dw:Hid (p+1+L=N):=hid (by rw[hz.out];exact bg.out);obtain⟨D,hD⟩:=Qyy (L+1);have hw1:IntKind.i64.wrap ((N:Int)-(p:Int))=(D:Int):=by have:=dw.out;rw[IntKind.wrap_i64];omega
 have hw2:(N:Int)-(p:Int)=(D:Int):=by have:=dw.out;omega
 have gy:=hid hD;have hbad:Hid ((D<3\/9<D\/s.data.toList[N]?≠some 58)->ang s.data.toList p=0):=hid (λh=>z3y _ p L fq.out (by rw[dw.out];rcases h with h|h|h;exact .inl (by omega);exact .inr (.inl (by omega));exact .inr (.inr h)))
 have jh:N<=s.size:=hk;clear hD dx;by_cases h1:D<3
 ·have hz:=hid (hbad.out (.inl h1));have hJ:(D:Int)<3:=by omega
  clear hbad;go_wp2;go_ret;exact⟨zak (by rw[hz.out];rfl),rfl⟩
 have jk:¬(D:Int)<3:=by omega
 by_cases h2:9<D
 ·have hz:=hid (hbad.out (.inr (.inl h2)));have hJ:(9:Int)<(D:Int):=by omega
  clear hbad;go_wp2;go_ret;exact⟨zak (by rw[hz.out];rfl),rfl⟩
 have hJ2:¬(9:Int)<(D:Int):=by omega
 by_cases h3:N<s.size
 ·have hg:=S.zad s N h3;have hJ3:(N:Int)<(s.size:Int):=by omega
  have gq:((N:Int) == (s.size:Int))=false:=by rw[Qe];omega
  by_cases hc:s[N]=58
  ·have e1:((s[N].toNat:Int) != 58)=false:=by simp[hc]
   obtain⟨A,hA⟩:=Qyy (S.zb5 [60,62] (s.data.toList.drop N));have hgood:Hid (ang s.data.toList p=if s.data.toList[N+A]?=some 62 then N+A+1 else 0):=hid (by
    have:=z0v s.data.toList p L A fq.out (by have:=gy.out;omega) (by have:=gy.out;omega) (by rw[dw.out,hg,hc]) (by rw[dw.out];exact hA);rw[dw.out] at this;exact this)
   have jd:=hid hA;clear hbad hg hc hA;go_upto_region 6 with fail
   go_loop [5] (λi=>∃k:Nat,N+k<=s.size/\i=.int .i64 (((N+k:Nat)):Int)/\Hid (∀j,j<k->∃b,(s.data.toList.drop N)[j]?=some b/\32<b.toNat/\b ∉ ([60,62]:List UInt8))) (λi=>s.size-(intOf i).toNat)
   case atStart=>exact⟨0,by omega,by go_num,hid (λj hj=>by omega)⟩
   case round=>
    obtain⟨k,hk,rfl,hall⟩:=hrel;obtain⟨n,hn⟩:=Qyy (N+k);rw[hn] at hk ⊢;have bg:=hid hn;clear hn gq e1;by_cases hn2:n<s.size
    ·have hg:Hid (s.data.toList[n]?=some s[n]):=hid (S.zad s n hn2);have hJ:(n:Int)<(s.size:Int):=(by omega);have hJ0:(0:Int)<=(n:Int):=(by omega);have hJe:((n:Int) == (s.size:Int))=false:=(by rw[Qe];omega);have hend:Hid (¬(32<s[n].toNat/\s[n].toNat≠60/\s[n].toNat≠62)->A=k):=hid (λhbad=>by
      rw[<-jd.out];refine S.zdo _ _ k hall.out (λb hb hc=>hbad ?_);rw[Qn,bg.out,hg.out] at hb;cases hb
      have h4:=hc.2;simp only[List.mem_cons,List.not_mem_nil,or_false,not_or,<-Qk] at h4;exact⟨hc.1,h4⟩)
     have hon:Hid ((32<s[n].toNat/\s[n].toNat≠60/\s[n].toNat≠62)->∀j,j<k+1->∃b,(s.data.toList.drop N)[j]?=some b/\32<b.toNat/\b ∉ ([60,62]:List UInt8)):=hid (λhgd j hj=>by
      by_cases e:j=k
      ·subst e;refine⟨s[n],by rw[Qn,bg.out];exact hg.out,hgd.1,?_⟩;simp only[List.mem_cons,List.not_mem_nil,or_false,not_or,<-Qk];exact hgd.2
      ·exact hall.out j (by omega))
     have hres:Hid (A=k->ang s.data.toList p=if s[n].toNat=62 then n+1 else 0):=hid (λhk9=>by
      rw[hgood.out,hk9,bg.out,hg.out];have jg:(some s[n]=some (62:UInt8))↔s[n].toNat=62:=by
       rw[Option.some.injEq,<-Qk];exact Iff.rfl
      by_cases e:s[n].toNat=62
      ·rw[if_pos e,if_pos (jg.2 e)]
      ·rw[if_neg e,if_neg (λh=>e (jg.1 h))])
     clear hall hgood;rcases (by omega:(32<s[n].toNat/\s[n].toNat≠60/\s[n].toNat≠62)\/s[n].toNat<=32\/s[n].toNat=60\/s[n].toNat=62) with h|h|h|h
     ·have e3:((s[n].toNat:Int) != 60)=true:=(by rw[bne_iff_ne];omega);have e4:((s[n].toNat:Int) != 62)=true:=(by rw[bne_iff_ne];omega);have dh:=hid (hon.out h);have e0:(32:Int)<(s[n].toNat:Int):=(by omega);clear h;go_wp2;exact⟨⟨k+1,by have:=bg.out;omega,by have:=bg.out;go_num,dh⟩,by simp[intOf];omega⟩
     ·have e2:((s[n].toNat:Int) != 62)=true:=(by rw[bne_iff_ne];omega);have hz:=hid ((hres.out (hend.out (by omega))).trans (if_neg (by omega)));have e0:¬(32:Int)<(s[n].toNat:Int):=(by omega);clear h;go_wp2;go_ret;exact⟨zak (by rw[hz.out];rfl),rfl⟩
     ·have hz:=hid ((hres.out (hend.out (by omega))).trans (if_neg (by omega)));go_wp2;go_ret;exact⟨zak (by rw[hz.out];rfl),rfl⟩
     ·have hz:=hid ((hres.out (hend.out (by omega))).trans (if_pos h));go_wp2;go_ret;exact⟨zak (by rw[hz.out];go_num),rfl⟩
    ·have hne:n=s.size:=(by omega);have hz:Hid (ang s.data.toList p=0):=hid (by
      have h1:A=k:=jd.out.symm.trans (S.zdo _ _ k hall.out (λb hb=>by
       rw[Qn,bg.out,Qr (by rw[S.lda];omega)] at hb;cases hb))
      rw[hgood.out,h1,bg.out,Qr (by rw[S.lda];omega)];rfl)
     have hJ:¬(n:Int)<(s.size:Int):=(by omega);have hJe:((n:Int) == (s.size:Int))=true:=(by rw[beq_iff_eq];omega);clear hne;go_wp2;go_ret;exact⟨zak (by rw[hz.out];rfl),rfl⟩
  ·have e1:((s[N].toNat:Int) != 58)=true:=by
    rw[bne_iff_ne];intro h;exact hc (Qk.1 (by show s[N].toNat=58;omega))
   have hz:=hid (hbad.out (.inr (.inr (by rw[hg];simpa using hc))));clear hbad hg hc;go_wp2;go_ret;exact⟨zak (by rw[hz.out];rfl),rfl⟩
 ·have hz:=hid (hbad.out (.inr (.inr (by rw[Qr (by rw[S.lda];omega)];simp))));have hJ3:(N:Int)=(s.size:Int):=by omega
  have gq:((N:Int) == (s.size:Int))=true:=by rw[beq_iff_eq];omega
  clear hbad;go_wp2;go_ret;exact⟨zak (by rw[hz.out];rfl),rfl⟩
end Go.Proofs.YtlojgpkajkedeaaGreatDoor
