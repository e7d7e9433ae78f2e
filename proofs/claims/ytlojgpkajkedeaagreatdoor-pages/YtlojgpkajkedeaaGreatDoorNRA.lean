import Derived.Test.YtlojgpkajkedeaaGreatDoorNW3
set_option maxHeartbeats 16000000
set_option maxRecDepth 100000
namespace Go.Proofs.YtlojgpkajkedeaaGreatDoor
open Go.RowKit Go.Proofs.Tryz
theorem z5f (s:ByteArray)(k:Nat):s.extract k s.size=S.B (s.data.toList.drop k):=by
 rw[<-S.zbp (s.extract k s.size),S.zbf]
theorem z5r (l:List UInt8):(decide (S.indent l<=3)&&!S.blank l) = !(S.shallow l).isEmpty:=by
 have h:=S.zby l;unfold S.shallow S.blank;by_cases h4:4<=S.indent l
 ·rw[if_pos h4,decide_eq_false (by omega)];rfl
 ·rw[if_neg h4,decide_eq_true (by omega)];simp only[Bool.true_and];congr 1
  rw[Bool.eq_iff_iff,decide_eq_true_iff,List.isEmpty_iff,List.drop_eq_nil_iff];omega
theorem zdl (s:ByteArray)(p:Nat)(c:UInt8)(w:World)(hs:s.size<=1000000)(hp:p<=1000000):Calls prog 126 #[.string s,.int .i64 (p:Nat),.int .u8 (c.toNat:Int)] w λe w'=>e=.returned (.int .i64 (S.cnt c (s.data.toList.drop p):Nat))/\w'=w:=by
 go_enter func126,ntmps126;go_wp2;go_loop [7] (λi=>∃k:Nat,k<=s.size-p/\i=.int .i64 k/\∀j,j<k->(s.data.toList.drop p)[j]?=some c) (λi=>s.size-p-(intOf i).toNat)
 case atStart=>exact⟨0,Qt _,rfl,by intro j hj;omega⟩
 case round=>
  obtain⟨k,hk,rfl,hall⟩:=hrel;obtain⟨n,hn⟩:=Qyy (p+k);have hwr:IntKind.i64.wrap ((p:Int)+(k:Int))=(n:Int):=by rw[IntKind.wrap_i64];omega
  have hg0:(s.data.toList.drop p)[k]?=s.data.toList[n]?:=by rw[Qn,hn]
  by_cases hlt:n<s.size
  ·have hg:s.data.toList[n]?=some s[n]:=S.zad s n hlt;have hI:(n:Int)<(s.size:Int):=by omega
   by_cases hc:s[n]=c
   ·have h1:((s[n].toNat:Int) == (c.toNat:Int))=true:=(by simp[hc]);have bg:Hid (∀j,j<k+1->(s.data.toList.drop p)[j]?=some c):=by
     intro j hj;by_cases e:j=k
     ·subst e;rw[hg0,hg,hc]
     ·exact hall j (by omega)
    have hkk:Hid (k+1<=s.size-p):=hid (by omega);clear hg hall hg0 hn;go_wp2;exact⟨⟨k+1,hkk.out,by go_num,bg.out⟩,by have:=hkk.out;simp[intOf];omega⟩
   ·have h1:((s[n].toNat:Int) == (c.toNat:Int))=false:=by
     rw[Qe];intro h;exact hc (Qk.1 (by omega))
    have hfin:Hid (S.cnt c (s.data.toList.drop p)=k):=S.zuw c _ k hall (by rw[hg0,hg];simpa using hc);clear hg hall hg0 hn;go_wp2;go_ret;exact⟨zak (by rw[hfin.out]),rfl⟩
  ·have hfin:Hid (S.cnt c (s.data.toList.drop p)=k):=S.zuw c _ k hall (by rw[hg0,Qr (by rw[S.lda];omega)];simp);have hI:¬(n:Int)<(s.size:Int):=by omega
   clear hall hg0 hn;go_wp2;go_ret;exact⟨zak (by rw[hfin.out]),rfl⟩
theorem zcc (s:ByteArray)(w:World)(hs:s.size<=1000000):Calls prog 88 #[.string s] w λe w'=>e=.returned (.int .i64 (S.indent s.data.toList:Nat))/\w'=w:=by
 have hM:=hid (zdl s 0 32 w hs (by omega));go_enter func88,ntmps88;go_wp2_with fail
 refine hM.out.mono ?_;rintro e w'⟨rfl,rfl⟩;go_wp2;go_ret;exact⟨rfl,rfl⟩
theorem zfu (s:ByteArray)(w:World)(hs:s.size<=1000000):Calls prog 128 #[.string s] w λe w'=>e=.returned (.string (S.B (s.data.toList.drop (S.indent s.data.toList))))/\w'=w:=by
 have hI:=hid (zcc s w hs);have hle:=S.zby s.data.toList;rw[S.lda] at hle;rw[<-z5f];obtain⟨n,hn⟩:=Qyy (S.indent s.data.toList);rw[hn] at hI hle ⊢;have h0:(0:Int)<=(n:Int):=by omega
 have h1:(n:Int)<=(s.size:Int):=by omega
 clear hn;go_enter func128,ntmps128;go_wp2_with fail
 refine hI.out.mono ?_;rintro e w'⟨rfl,rfl⟩;go_wp2;go_ret;exact⟨rfl,rfl⟩
theorem zc7 (s:ByteArray)(w:World)(hs:s.size<=1000000):Calls prog 67 #[.string s] w λe w'=>e=.returned (.bool (S.blank s.data.toList))/\w'=w:=by
 have hI:=hid (zcc s w hs);have hb:Hid ((((S.indent s.data.toList:Nat):Int) == (s.size:Int))=S.blank s.data.toList):=by
  apply hid;unfold S.blank;rw[S.lda,Bool.eq_iff_iff,beq_iff_eq,decide_eq_true_iff];omega
 go_enter func67,ntmps67;go_wp2_with fail
 refine hI.out.mono ?_;rintro e w'⟨rfl,rfl⟩;go_wp2;go_ret;exact⟨zb1 hb.out,rfl⟩
theorem zid (s:ByteArray)(n:Nat)(w:World)(hn:n<=1000000):Calls prog 132 #[.string s,.int .i64 (n:Nat)] w λe w'=>e=.returned (.string (S.B (s.data.toList.drop n)))/\w'=w:=by
 by_cases hc:s.size<=n
 ·have h1:(s.size:Int)<=(n:Int):=by omega
  have hE:Hid (S.B (s.data.toList.drop n)=⟨#[]⟩):=hid (by rw[Qw (by rw[S.lda];exact hc)];rfl);go_enter func132,ntmps132;go_wp2;go_ret;exact⟨by first|rfl|(rw[hE.out];rfl),rfl⟩
 ·have h1:¬(s.size:Int)<=(n:Int):=by omega
  have h0:(0:Int)<=(n:Int):=by omega
  have h2:(n:Int)<=(s.size:Int):=by omega
  rw[<-z5f];go_enter func132,ntmps132;go_wp2;go_ret;exact⟨rfl,rfl⟩
theorem ztv (s:ByteArray)(w:World)(hs:s.size<=1000000):Calls prog 127 #[.string s] w λe w'=>e=.returned (.bool (!(S.shallow s.data.toList).isEmpty))/\w'=w:=by
 have hI:=hid (zcc s w hs);have hB:=hid (zc7 s w hs);rw[<-z5r];obtain⟨n,hn⟩:=Qyy (S.indent s.data.toList);obtain⟨b,hb⟩:=Qyy (S.blank s.data.toList);rw[hn] at hI ⊢;rw[hb] at hB ⊢;clear hn hb;by_cases h3:n<=3
 ·have h4:(n:Int)<=3:=by omega
  have hE:Hid ((decide (n<=3)&&!b) = !b):=hid (by rw[decide_eq_true h3];rfl);go_enter func127,ntmps127;go_wp2_with fail
  refine hI.out.mono ?_;rintro e w'⟨rfl,rfl⟩;go_wp2_with fail
  refine hB.out.mono ?_;rintro e w'⟨rfl,rfl⟩;go_wp2;go_ret;exact⟨by first|rfl|(rw[hE.out];rfl),rfl⟩
 ·have h4:¬(n:Int)<=3:=by omega
  have hE:Hid ((decide (n<=3)&&!b)=false):=hid (by rw[decide_eq_false h3];rfl);go_enter func127,ntmps127;go_wp2_with fail
  refine hI.out.mono ?_;rintro e w'⟨rfl,rfl⟩;go_wp2;go_ret;exact⟨by first|rfl|(rw[hE.out];rfl),rfl⟩
theorem z0n (s:ByteArray)(n:Nat):s.extract 0 n=S.B (s.data.toList.take n):=by
 rw[<-S.zbp (s.extract 0 n),Lib.extract_data];simp
namespace S
theorem zcq (x c:UInt8)(r:List UInt8):Lib.trimRightB (x::r) c=if Lib.trimRightB r c=[] then (if x=c then [] else [x]) else x::Lib.trimRightB r c:=by
 unfold Lib.trimRightB;rw[List.reverse_cons,List.dropWhile_append];by_cases h:(List.dropWhile (λx=>x == c) r.reverse).isEmpty=true
 ·rw[if_pos h];have h':(List.dropWhile (λx=>x == c) r.reverse).reverse=[]:=by simpa using h
  rw[if_pos h'];by_cases hx:x=c<;>simp[hx]
 ·rw[if_neg h];have h':¬(List.dropWhile (λx=>x == c) r.reverse).reverse=[]:=by simpa using h
  rw[if_neg h'];simp
theorem zf1 (l:List UInt8)(c:UInt8)(n:Nat)(hn:n<=l.length)(hall:∀j,n<=j->j<l.length->l[j]?=some c)(he:n=0\/l[n-1]?≠some c):Lib.trimRightB l c=l.take n:=by
 induction l generalizing n with
 | nil=>simp[Lib.trimRightB]
 | cons x r ih=>
  rw[zcq];cases n with
  | zero=>
   have h1:=ih 0 (Qt _) (λj _ hj=>by have:=hall (j+1) (by omega) (by simpa using hj);simpa using this) (.inl rfl);have h2:=hall 0 (by omega) (by simp);simp at h2;rw[h1];simp[h2]
  | succ n=>
   have h1:=ih n (by simpa using hn) (λj hj hl=>by have:=hall (j+1) (by omega) (by simpa using hl);simpa using this) (by
    cases n with
    | zero=>exact .inl rfl
    | succ n=>exact .inr (by
      rcases he with h|h
      ·omega
      ·simpa using h))
   rw[h1];cases n with
   | zero=>
    rcases he with h|h
    ·omega
    ·simp at h;simp[h]
   | succ n=>
    have:r.take (n+1)≠[]:=by
     intro e;have:=congrArg List.length e;rw[Ql,Qi] at this;simp only[Qd] at hn;omega
    rw[if_neg this];rfl
theorem zga (l:List UInt8)(c:UInt8):Lib.trimRightB (l.drop (cnt c l)) c=Lib.trimB l c:=by
 show _=Lib.trimLeftB (Lib.trimRightB l c) c;induction l with
 | nil=>rfl
 | cons x r ih=>
  rw[zcq];by_cases h:x=c
  ·subst h;simp only[cnt,if_true,List.drop_succ_cons];rw[ih];by_cases he:Lib.trimRightB r x=[]
   ·rw[if_pos he,he]
   ·rw[if_neg he];simp[Lib.trimLeftB]
  ·simp only[cnt,if_neg h,List.drop_zero];rw[zcq,if_neg h];by_cases he:Lib.trimRightB r c=[]
   ·rw[if_pos he];simp[Lib.trimLeftB,h]
   ·rw[if_neg he];simp[Lib.trimLeftB,h]
end S
theorem zfq (s:ByteArray)(w:World)(hs:s.size<=1000000):Calls prog 130 #[.string s] w λe w'=>e=.returned (.string (S.B (Lib.trimRightB s.data.toList 32)))/\w'=w:=by
 go_enter func130,ntmps130;go_wp2;go_loop [3] (λi=>∃k:Nat,k<=s.size/\i=.int .i64 k/\∀j,k<=j->j<s.data.toList.length->s.data.toList[j]?=some 32) (λi=>(intOf i).toNat)
 case atStart=>exact⟨s.size,Qc _,rfl,by intro j hj hl;rw[S.lda] at hl;omega⟩
 case round=>
  obtain⟨k,hk,rfl,hall⟩:=hrel;have hI1:(0:Int)<=(k:Int):=by omega
  have hI2:(k:Int)<=(s.size:Int):=by omega
  by_cases h0:0<k
  ·obtain⟨m,rfl⟩:∃m,k=m+1:=⟨k-1,by omega⟩;have hg:s.data.toList[m]?=some s[m]:=S.zad s m (by omega);have hwr:IntKind.i64.wrap (((m+1:Nat):Int)-1)=(m:Int):=by rw[IntKind.wrap_i64];omega
   have dh:(m:Int)<(s.size:Int):=by omega
   have hlm:m<s.size:=by omega
   by_cases hc:s[m]=32
   ·have h1:((s[m].toNat:Int) == 32)=true:=(by simp[hc]);have bg:Hid (∀j,m<=j->j<s.data.toList.length->s.data.toList[j]?=some 32):=by
     intro j hj hl;by_cases e:j=m
     ·subst e;rw[hg,hc]
     ·exact hall j (by omega) hl
    clear hg hall;go_wp2;exact⟨⟨m,by omega,by go_num,bg.out⟩,by simp[intOf]⟩
   ·have h1:((s[m].toNat:Int) == 32)=false:=by
     rw[Qe];intro h;exact hc (Qk.1 (by show s[m].toNat=32;omega))
    have hfin:Hid (s.extract 0 (m+1)=S.B (Lib.trimRightB s.data.toList 32)):=hid (by
     rw[z0n,S.zf1 s.data.toList 32 (m+1) (by rw[S.lda];omega) hall (.inr (by rw[Nat.add_sub_cancel,hg];simpa using hc))])
    clear hg hall;go_wp2;go_ret;exact⟨by rw[<-hfin.out];rfl,rfl⟩
  ·have hk0:k=0:=by omega
   subst hk0;have hfin:Hid (ByteArray.empty=S.B (Lib.trimRightB s.data.toList 32)):=hid (by
    rw[S.zf1 s.data.toList 32 0 (Qt _) hall (.inl rfl)];rfl)
   clear hall;go_wp2;go_ret;exact⟨by rw[<-hfin.out];rfl,rfl⟩
theorem zlz (s:ByteArray)(w:World)(hs:s.size<=1000000):Calls prog 129 #[.string s] w λe w'=>e=.returned (.string (S.B (Lib.trimB s.data.toList 32)))/\w'=w:=by
 have hR:=hid (zfu s w hs);have hE:=zfq (S.B (s.data.toList.drop (S.indent s.data.toList))) w (by rw[S.zav,Qf,S.lda];omega);rw[S.zaz,show S.indent s.data.toList=S.cnt 32 s.data.toList from rfl,S.zga] at hE;have bg:=hid hE;clear hE;go_enter func129,ntmps129;go_wp2_with fail
 refine hR.out.mono ?_;rintro e w'⟨rfl,rfl⟩;go_wp2_with fail
 refine bg.out.mono ?_;rintro e w'⟨rfl,rfl⟩;go_wp2;go_ret;exact⟨rfl,rfl⟩
end Go.Proofs.YtlojgpkajkedeaaGreatDoor
