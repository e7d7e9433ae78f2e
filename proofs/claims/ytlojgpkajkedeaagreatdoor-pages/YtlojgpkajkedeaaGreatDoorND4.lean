import Derived.Test.YtlojgpkajkedeaaGreatDoorND3
import Derived.Lib.IndexLaws
import Derived.Lib.Replace
import Derived.Lib.SplitLaws
set_option maxHeartbeats 16000000
set_option maxRecDepth 100000
namespace Go.Proofs.YtlojgpkajkedeaaGreatDoor
open Go.RowKit Go.Proofs.Tryz
theorem zd4 (s:ByteArray)(i j:Nat):(s.extract i j).data.toList=(s.data.toList.drop i).take (j-i):=by
 rw[Lib.extract_data]
theorem zbi (s:ByteArray)(i:Nat):(s.extract i s.size).data.toList=s.data.toList.drop i:=S.zbf s i
theorem zix (s:ByteArray)(w:World)(hs:s.size<=1000000):Calls prog 237 #[.string s] w λe w'=>∃r:ByteArray,e=.returned (.tuple #[.string r,.bool (S.zd5 s.data.toList)])/\Hid (S.zd5 s.data.toList=true->r.data.toList=S.addrOf s.data.toList)/\Below w.heap.size w w':=by
 have hP:=hid ((Tryz.strings_HasPrefix s ⟨#[40]⟩ w).mono (λe w' (h:e=_/\w'=w)=>(⟨h.1,h.2.symm⟩:e=_/\w=w')));cases h0:Lib.hasPrefix s.data.toList [40]
 ·have hok:Hid (S.zd5 s.data.toList=false):=hid (by unfold S.zd5;rw[h0];rfl);rw[show (⟨#[40]⟩:ByteArray).data.toList=[40] from rfl,h0] at hP;rw[hok.out];clear h0;go_enter func237,ntmps237;go_wp2_with fail
  refine hP.out.mono ?_;rintro e w'⟨rfl,rfl⟩;go_wp2;go_ret2;exact⟨⟨#[]⟩,rfl,hid (λh=>by cases h),Below.refl _ _⟩
 ·have hpos:1<=s.size:=by
   rw[<-S.lda];cases hl:s.data.toList with
   | nil=>rw[hl] at h0;simp[Lib.hasPrefix] at h0
   | cons b r=>simp
  rw[show (⟨#[40]⟩:ByteArray).data.toList=[40] from rfl,h0] at hP;obtain⟨k,hk⟩:=Qyy (S.zb5 [40,41,60,62] (s.data.toList.drop 1));have hkl:1+k<=s.size:=by rw[<-hk];have:=S.zic [40,41,60,62] (s.data.toList.drop 1);rw[Qf,S.lda] at this;omega
  have hA:Hid (Calls prog 233 #[.string (s.extract 1 s.size),.string ⟨#[40,41,60,62]⟩] w λe w'=>e=.returned (.int .i64 (k:Nat))/\w=w'):=hid (by
   have:=zh0 (s.extract 1 s.size) ⟨#[40,41,60,62]⟩ w (by rw[ByteArray.size_extract];unfold maxLen;omega);rw[zbi,show (⟨#[40,41,60,62]⟩:ByteArray).data.toList=[40,41,60,62] from rfl,hk] at this;exact this)
  have hQ:Hid (∀wx,Calls prog 161 #[.string (s.extract (1+k) s.size),.string ⟨#[41]⟩] wx λe w'=>e=.returned (.bool (S.zd5 s.data.toList))/\wx=w'):=hid (λwx=>by
   have:=Tryz.strings_HasPrefix (s.extract (1+k) s.size) ⟨#[41]⟩ wx;rw[zbi,show (⟨#[41]⟩:ByteArray).data.toList=[41] from rfl] at this;refine this.mono (λe w' ⟨h1,h2⟩=>⟨?_,h2.symm⟩);rw[h1];unfold S.zd5;rw[h0,hk,Bool.true_and])
  have hfin:Hid ((s.extract 1 (1+k)).data.toList=S.addrOf s.data.toList):=hid (by
   rw[zd4];unfold S.addrOf;rw[hk,Nat.add_sub_cancel_left])
  have hkl':(1:Int)+(k:Int)<=(s.size:Int):=by omega
  have bg:((1:Int)+(k:Int)).toNat=1+k:=by omega
  have hz0:(0:Int)<=1+(k:Int):=by omega
  have hz1:(1:Int)<=1+(k:Int):=by omega
  generalize S.zd5 s.data.toList=ok at *;clear hk h0;go_enter func237,ntmps237;go_wp2_with fail
  refine hP.out.mono ?_;rintro e w'⟨rfl,rfl⟩;go_wp2_with fail
  refine hA.out.mono ?_;rintro e w'⟨rfl,rfl⟩;go_wp2_with fail
  go_region_held3 (λ_=>True) (trivial) ((go_at_call 161;refine(hQ.out _).mono ?_;rintro e w'⟨rfl,rfl⟩))
  go_wp2;go_ret2;exact⟨s.extract 1 (1+k),rfl,hid (λ_=>hfin.out),(Below.refl _ _).drew⟩
theorem zno (s:ByteArray)(w:World)(hs:s.size<=1000000)(h0:0<s.size):Calls prog 200 #[.string s] w λe w'=>∃r:ByteArray,e=.returned (.tuple #[.string r,.bool (S.zdb s.data.toList)])/\Hid (S.zdb s.data.toList=true->r.data.toList=S.zck s.data.toList)/\Below w.heap.size w w':=by
 have gy:=hid (λ(b:UInt8) wx=>zkd b wx);obtain⟨lt,hlt⟩:=Qyy (S.letters (s.data.toList.drop 1));have jg:1+lt<=s.size:=by rw[<-hlt];have:=S.znn (s.data.toList.drop 1);rw[Qf,S.lda] at this;omega
 have dx:Hid (S.colon s.data.toList=1+lt):=hid (by unfold S.colon;rw[hlt]);have dw:=hid hlt;have hP:Hid (∀wx,Calls prog 161 #[.string (s.extract (1+lt) s.size),.string ⟨#[58]⟩] wx λe w'=>e=.returned (.bool (Lib.hasPrefix (s.data.toList.drop (1+lt)) [58]))/\wx=w'):=hid (λwx=>by
  have:=Tryz.strings_HasPrefix (s.extract (1+lt) s.size) ⟨#[58]⟩ wx;rw[zbi] at this;exact this.mono (λe w' ⟨h1,h2⟩=>⟨h1,h2.symm⟩))
 obtain⟨pc,hpc⟩:=Qyy (Lib.hasPrefix (s.data.toList.drop (1+lt)) [58]);rw[hpc] at hP;have hbad:Hid (S.zo5 s.data.toList=(decide (lt<2)||decide (8<lt)||!pc)):=hid (by unfold S.zo5;rw[hlt,dx.out,hpc]);obtain⟨k,hk⟩:=Qyy (S.zb5 [60,62] (s.data.toList.drop (1+lt)));have hkl:1+lt+k<=s.size:=by rw[<-hk];have:=S.zic [60,62] (s.data.toList.drop (1+lt));rw[Qf,S.lda] at this;omega
 have hend:Hid (S.zdf s.data.toList=1+lt+k):=hid (by unfold S.zdf;rw[dx.out,hk]);have hA:Hid (∀wx,Calls prog 233 #[.string (s.extract (1+lt) s.size),.string ⟨#[60,62]⟩] wx λe w'=>e=.returned (.int .i64 (k:Nat))/\wx=w'):=hid (λwx=>by
  have:=zh0 (s.extract (1+lt) s.size) ⟨#[60,62]⟩ wx (by rw[ByteArray.size_extract];unfold maxLen;omega);rw[zbi,show (⟨#[60,62]⟩:ByteArray).data.toList=[60,62] from rfl,hk] at this;exact this)
 have hQ:Hid (∀wx,Calls prog 161 #[.string (s.extract (1+lt+k) s.size),.string ⟨#[62]⟩] wx λe w'=>e=.returned (.bool (Lib.hasPrefix (s.data.toList.drop (S.zdf s.data.toList)) [62]))/\wx=w'):=hid (λwx=>by
  have:=Tryz.strings_HasPrefix (s.extract (1+lt+k) s.size) ⟨#[62]⟩ wx;rw[zbi] at this;rw[hend.out];exact this.mono (λe w' ⟨h1,h2⟩=>⟨h1,h2.symm⟩))
 have hfin:Hid ((s.extract 1 (1+lt+k)).data.toList=S.zck s.data.toList):=hid (by
  rw[zd4];unfold S.zck;rw[hend.out])
 clear hlt hpc hk;go_enter func200,ntmps200;go_wp2;go_loop [4] (λi=>∃j:Nat,1+j<=s.size/\i=.int .i64 ((1:Int)+(j:Int))/\Hid (∀x,x<j->((s.data.toList.drop 1)[x]?.map S.letter)=some true)) (λi=>s.size-(intOf i).toNat)
 case atStart=>exact⟨0,by omega,rfl,hid (λx hx=>by omega)⟩
 case round=>
  obtain⟨j,hj,rfl,hall⟩:=hrel;have jd:((1:Int)+(j:Int)).toNat=1+j:=by omega
  by_cases hjl:1+j<s.size
  ·have hji:(1:Int)+(j:Int)<(s.size:Int):=by omega
   have hg:=S.zad s (1+j) hjl;have gq:Hid ((s.data.toList.drop 1)[j]?=some s[1+j]):=hid (by rw[Qn];exact hg);clear hg;cases hL:S.letter s[1+j]
   ·have bg:=hid (λwx=>gy.out s[1+j] wx);rw[hL] at bg;obtain rfl:j=lt:=by
     rw[<-dw.out];exact(S.zk4 _ j hall.out (by rw[gq.out,Option.map_some,hL];simp)).symm
    clear hL hall gq;by_cases hb1:j<2
    ·have hzb:Hid (S.zdb s.data.toList=false):=hid (by unfold S.zdb;rw[hbad.out,decide_eq_true hb1];rfl);have hb1':(j:Int)<2:=(by omega);go_wp2_with (go_at_call 232;refine(bg.out _).mono ?_;rintro e w'⟨rfl,rfl⟩)
     go_ret2;exact⟨⟨#[]⟩,by rw[hzb.out];rfl,hid (λh=>by rw[hzb.out] at h;cases h),Below.refl _ _⟩
    ·by_cases hb2:8<j
     ·have hzb:Hid (S.zdb s.data.toList=false):=hid (by unfold S.zdb;rw[hbad.out,decide_eq_true hb2,Bool.or_true];rfl);have hb1':¬(j:Int)<2:=(by omega);have hb2':(8:Int)<(j:Int):=(by omega);go_wp2_with (go_at_call 232;refine(bg.out _).mono ?_;rintro e w'⟨rfl,rfl⟩)
      go_ret2;exact⟨⟨#[]⟩,by rw[hzb.out];rfl,hid (λh=>by rw[hzb.out] at h;cases h),Below.refl _ _⟩
     ·have hb1':¬(j:Int)<2:=(by omega);have hb2':¬(8:Int)<(j:Int):=(by omega);cases pc
      ·have hzb:Hid (S.zdb s.data.toList=false):=hid (by unfold S.zdb;rw[hbad.out];simp);go_wp2_with (first|(go_at_call 232;refine(bg.out _).mono ?_;rintro e w'⟨rfl,rfl⟩)|(go_at_call 161;refine(hP.out _).mono ?_;rintro e w'⟨rfl,rfl⟩))
       go_ret2;exact⟨⟨#[]⟩,by rw[hzb.out];rfl,hid (λh=>by rw[hzb.out] at h;cases h),Below.refl _ _⟩
      ·have hzb:Hid (S.zdb s.data.toList=Lib.hasPrefix (s.data.toList.drop (S.zdf s.data.toList)) [62]):=hid (by unfold S.zdb;rw[hbad.out,decide_eq_false hb1,decide_eq_false hb2];simp);rw[<-hzb.out] at hQ;have hz0:(0:Int)<=1+(j:Int)+(k:Int):=(by omega);have hz1:(1:Int)<=1+(j:Int)+(k:Int):=(by omega);have hz2:(1:Int)+(j:Int)+(k:Int)<=(s.size:Int):=(by omega);have dh:((1:Int)+(j:Int)+(k:Int)).toNat=1+j+k:=(by omega);go_wp2_with (first|(go_at_call 232;refine(bg.out _).mono ?_;rintro e w'⟨rfl,rfl⟩)|(go_at_call 161;refine(hP.out _).mono ?_;rintro e w'⟨rfl,rfl⟩))
       refine(hA.out _).mono ?_;rintro e w'⟨rfl,rfl⟩;go_wp2_with (fail);go_region_held3 (λ_=>True) (trivial) ((go_at_call 161;refine(hQ.out _).mono ?_;rintro e w'⟨rfl,rfl⟩))
       go_wp2;go_ret2;exact⟨s.extract 1 (1+j+k),rfl,hid (λ_=>hfin.out),(Below.refl _ _).drew⟩
   ·have bg:=hid (λwx=>gy.out s[1+j] wx);rw[hL] at bg;have fq:Hid (∀x,x<j+1->((s.data.toList.drop 1)[x]?.map S.letter)=some true):=hid (λx hx=>by
     by_cases e:x=j
     ·subst e;rw[gq.out,Option.map_some,hL]
     ·exact hall.out x (by omega))
    clear hL;go_wp2_with (go_at_call 232;refine(bg.out _).mono ?_;rintro e w'⟨rfl,rfl⟩)
    go_round
    case rel=>exact⟨j+1,by omega,by go_num,fq⟩
    case measure=>simp[intOf];omega
  ·obtain rfl:j=lt:=by
    rw[<-dw.out];exact(S.zk4 _ j hall.out (by rw[Qr (by rw[Qf,S.lda];omega)];simp)).symm
   have jh:¬(1:Int)+(j:Int)<(s.size:Int):=by omega
   clear hall;by_cases hb1:j<2
   ·have hzb:Hid (S.zdb s.data.toList=false):=hid (by unfold S.zdb;rw[hbad.out,decide_eq_true hb1];rfl);have hb1':(j:Int)<2:=(by omega);go_wp2;go_ret2;exact⟨⟨#[]⟩,by rw[hzb.out];rfl,hid (λh=>by rw[hzb.out] at h;cases h),Below.refl _ _⟩
   ·by_cases hb2:8<j
    ·have hzb:Hid (S.zdb s.data.toList=false):=hid (by unfold S.zdb;rw[hbad.out,decide_eq_true hb2,Bool.or_true];rfl);have hb1':¬(j:Int)<2:=(by omega);have hb2':(8:Int)<(j:Int):=(by omega);go_wp2;go_ret2;exact⟨⟨#[]⟩,by rw[hzb.out];rfl,hid (λh=>by rw[hzb.out] at h;cases h),Below.refl _ _⟩
    ·have hb1':¬(j:Int)<2:=(by omega);have hb2':¬(8:Int)<(j:Int):=(by omega);cases pc
     ·have hzb:Hid (S.zdb s.data.toList=false):=hid (by unfold S.zdb;rw[hbad.out];simp);go_wp2_with (go_at_call 161;refine(hP.out _).mono ?_;rintro e w'⟨rfl,rfl⟩)
      go_ret2;exact⟨⟨#[]⟩,by rw[hzb.out];rfl,hid (λh=>by rw[hzb.out] at h;cases h),Below.refl _ _⟩
     ·have hzb:Hid (S.zdb s.data.toList=Lib.hasPrefix (s.data.toList.drop (S.zdf s.data.toList)) [62]):=hid (by unfold S.zdb;rw[hbad.out,decide_eq_false hb1,decide_eq_false hb2];simp);rw[<-hzb.out] at hQ;have hz0:(0:Int)<=1+(j:Int)+(k:Int):=(by omega);have hz1:(1:Int)<=1+(j:Int)+(k:Int):=(by omega);have hz2:(1:Int)+(j:Int)+(k:Int)<=(s.size:Int):=(by omega);have dh:((1:Int)+(j:Int)+(k:Int)).toNat=1+j+k:=(by omega);go_wp2_with (go_at_call 161;refine(hP.out _).mono ?_;rintro e w'⟨rfl,rfl⟩)
      refine(hA.out _).mono ?_;rintro e w'⟨rfl,rfl⟩;go_wp2_with (fail);go_region_held3 (λ_=>True) (trivial) ((go_at_call 161;refine(hQ.out _).mono ?_;rintro e w'⟨rfl,rfl⟩))
      go_wp2;go_ret2;exact⟨s.extract 1 (1+j+k),rfl,hid (λ_=>hfin.out),(Below.refl _ _).drew⟩
namespace S
theorem zou (size:Nat)(f:Nat)(l:List UInt8)(k K:Nat)(h:zbv size f l k=some K):k<=K/\K+size<=k+l.length:=by
 induction f generalizing l k with
 | zero=>simp[zbv] at h
 | succ f ih=>
  cases l with
  | nil=>simp[zbv] at h
  | cons b r=>
   simp only[zbv] at h;split at h
   ·split at h
    ·rename_i hc;cases h;have:=zd3 96 (b::r);omega
    ·have:=ih _ _ h;have hl:=zd3 96 (b::r);rw[Qf] at this;omega
   ·have:=ih _ _ h;simp only[Qd];omega
theorem zh1 (l:List UInt8)(size K:Nat)(hs:size<=l.length)(h:ze9 l size=some K):size<=K/\K+size<=l.length:=by
 have:=zou size _ _ _ _ h;rw[Qf] at this;omega
def zcf (l:List UInt8):List UInt8:=
 let r:=Lib.replaceAll l [10] [32]
 if (Lib.hasPrefix r [32]&&Lib.hasSuffix r [32])=true/\Lib.trimB r 32≠[] then (r.drop 1).take (r.length-2) else r
theorem zkh (k:Nat)(l:List UInt8):(Lib.replaceK [10] [32] k l).length=l.length:=by
 induction k generalizing l with
 | zero=>rfl
 | succ k ih=>
  unfold Lib.replaceK;split
  ·rfl
  ·rename_i h;have hge:=Lib.indexByte_ge l 10;rw[Lib.index_one] at h ⊢;have hne:¬Lib.indexByte l 10 = -1:=by simpa using h
   obtain⟨o,ho⟩:∃o:Nat,Lib.indexByte l 10=o:=⟨(Lib.indexByte l 10).toNat,by omega⟩;have hlt:=(Qb.1 (Lib.indexByte_some ho).1).1;simp only[Qa,Ql,ih,Qf,Qd,Qi];omega
theorem zi2 (l:List UInt8):(Lib.replaceAll l [10] [32]).length=l.length:=by
 unfold Lib.replaceAll Lib.replace;rw[if_neg (by decide)];exact zkh _ _
end S
theorem zm4 (s:ByteArray)(size:Nat)(w:World)(hs:s.size<=1000000)(hz:size<=s.size)(hz1:1<=size)(v:Option Nat)(hv:S.ze9 s.data.toList size=v):Calls prog 198 #[.string s,.int .i64 (size:Nat)] w λe w'=>e=.returned (.tuple #[.string ((v.map (λk=>s.extract size k)).getD ⟨#[]⟩),.bool v.isSome])/\w=w':=by
 have dw:=hid hv;clear hv;go_enter func198,ntmps198;go_wp2;go_loop [6,7] (λi _=>∃k f:Nat,size<=k/\k<=s.size/\i=.int .i64 k/\s.size-k<f/\Hid (S.zbv size f (s.data.toList.drop k) k=v)) (λi _=>s.size-(intOf i).toNat)
 case atStart=>exact⟨size,s.size+1,Qc _,hz,rfl,by omega,hid (by have:=dw.out;unfold S.ze9 at this;rw[S.lda] at this;exact this)⟩
 case round=>
  obtain⟨k,f,hsk,hk,rfl,hf,hsp⟩:=hrel;obtain⟨f',rfl⟩:∃f',f=f' + 1:=⟨f-1,by omega⟩;by_cases hlt:k<s.size
  ·have hg:=S.zad s k hlt;have hdr:Hid (s.data.toList.drop k=s[k]::s.data.toList.drop (k+1)):=hid (by
    obtain⟨hl',hx'⟩:=Qb.1 hg;rw[Qm hl',hx'])
   clear hg;by_cases hx:s[k]=96
   ·have hxn:s[k].toNat=96:=(by rw[hx];rfl);have hx0:(s.extract k s.size).data.toList=s[k]::s.data.toList.drop (k+1):=(by rw[zbi];exact hdr.out);have hxs:(s.extract k s.size).size=s.size-k:=(by rw[ByteArray.size_extract];omega);have hpos:0<(s.extract k s.size).size:=(by omega);have he0:(s.extract k s.size)[0]=96:=by
     have:=S.zad (s.extract k s.size) 0 hpos;rw[hx0] at this;simp at this;rw[<-this];exact hx
    obtain⟨g,hgv⟩:=Qyy (S.cnt 96 (s.data.toList.drop k));have hCS:Hid (Calls prog 153 #[.string (s.extract k s.size)] w λe w'=>e=.returned (.int .i64 (g:Nat))/\w=w'):=hid (by
     have:=zex (s.extract k s.size) w (by rw[hxs];unfold maxLen;omega) hpos (by rw[he0];decide);have e:S.same (s.extract k s.size).data.toList=g:=(by rw[<-hgv,zbi,hdr.out,hx];rfl);rw[e] at this;exact this)
    have hgl:k+g<=s.size:=(by rw[<-hgv];have:=S.zd3 96 (s.data.toList.drop k);rw[Qf,S.lda] at this;omega);have hg1:1<=g:=(by rw[<-hgv,hdr.out,hx];simp[S.cnt]);have hstep:Hid ((if g=size then some k else S.zbv size f' (s.data.toList.drop (k+g)) (k+g))=v):=hid (by
     have:=hsp.out;rw[hdr.out] at this;simp only[S.zbv] at this;rw[if_pos hx,<-hdr.out,hgv,Qbb] at this;exact this)
    clear hx hx0 hxs hpos he0 hgv hsp;by_cases hgs:g=size
    ·subst hgs;have hvk:Hid (v=some k):=hid (by rw[<-hstep.out,if_pos rfl]);clear hstep;go_wp2_with (go_at_call 153;refine hCS.out.mono ?_;rintro e w'⟨rfl,rfl⟩)
     go_ret2;exact⟨by rw[hvk.out];rfl,rfl⟩
    ·have hgb:(((g:Nat):Int) == ((size:Nat):Int))=false:=(by rw[Qe];omega);have bg:Hid (S.zbv size f' (s.data.toList.drop (k+g)) (k+g)=v):=hid (by rw[<-hstep.out,if_neg hgs]);clear hstep hgs;go_wp2_with (go_at_call 153;refine hCS.out.mono ?_;rintro e w'⟨rfl,rfl⟩)
     go_round
     case rel=>exact⟨k+g,f',by omega,by omega,by go_num,by omega,bg⟩
     case measure=>simp[intOf];omega
   ·have hxb:(((s[k].toNat:Nat):Int) == 96)=false:=by
     rw[Qe];intro e;exact hx (Qk.1 (by show s[k].toNat=96;omega))
    have bg:Hid (S.zbv size f' (s.data.toList.drop (k+1)) (k+1)=v):=hid (by
     have:=hsp.out;rw[hdr.out] at this;simp only[S.zbv] at this;rw[if_neg hx] at this;exact this)
    clear hx hsp;go_wp2;go_round
    case rel=>exact⟨k+1,f',by omega,by omega,by go_num,by omega,bg⟩
    case measure=>simp[intOf];omega
  ·have dh:Hid (v=none):=hid (by
    have:=hsp.out;rw[Qw (by rw[S.lda];omega)] at this;rw[<-this];rfl)
   clear hsp;go_wp2;go_ret2;exact⟨by rw[dh.out];rfl,rfl⟩
theorem zkm {l:List UInt8}(h:Lib.trimB l 32≠[])(h1:Lib.hasPrefix l [32]=true):2<=l.length:=by
 cases l with
 | nil=>simp[Lib.hasPrefix] at h1
 | cons b r=>cases r with
  | nil=>
   exfalso;apply h
   have:b=32:=by simp[Lib.hasPrefix] at h1;exact h1.symm
   subst this;decide
  | cons c r=>simp
theorem zqr (s:ByteArray)(w:World)(hs:s.size<=1000000)(henv:Env w):Calls prog 199 #[.string s] w λe w'=>∃r:ByteArray,e=.returned (.string r)/\Hid (r.data.toList=S.zcf s.data.toList)/\Below w.heap.size w w':=by
 obtain⟨_,⟨mx,hmx⟩,_⟩:=henv;obtain⟨R,hR⟩:∃R:ByteArray,R=⟨(Lib.replaceAll s.data.toList [10] [32]).toArray⟩:=⟨_,rfl⟩;have gy:R.data.toList=Lib.replaceAll s.data.toList [10] [32]:=by rw[hR]
 have hRs:R.size=s.size:=by rw[<-S.lda,gy,S.zi2,S.lda]
 have hcb:Lib.countB s ⟨#[10]⟩<=s.size:=by
  show Lib.count s.data.toList [10]<=_;rw[Lib.count_one,<-S.lda];exact List.count_le_length
 have gq:Hid (Calls prog 231 #[.string s,.string ⟨#[10]⟩,.string ⟨#[32]⟩] w λe w'=>e=.returned (.string R)/\Below w.heap.size w w'):=hid (by
  have:=Tryz.strings_ReplaceAll s ⟨#[10]⟩ ⟨#[32]⟩ mx w (by omega) hmx (by decide) (by
   have e:(⟨#[32]⟩:ByteArray).size=1:=rfl;rw[e];omega)
  rw[hR];exact this)
 have dw:=hid (λwx=>(Tryz.strings_HasPrefix R ⟨#[32]⟩ wx).mono (λe w' (h:e=_/\w'=wx)=>(⟨h.1,h.2.symm⟩:e=_/\wx=w')));have dx:=hid (λwx=>(Tryz.strings_HasSuffix R ⟨#[32]⟩ wx (by omega)).mono (λe w' (h:e=_/\w'=wx)=>(⟨h.1,h.2.symm⟩:e=_/\wx=w')));have hTr:Hid (∀wx,Calls prog 172 #[.string R,.string ⟨#[32]⟩] wx λe w'=>e=.returned (.string ⟨(Lib.trimB R.data.toList 32).toArray⟩)/\Below wx.heap.size wx w'):=hid (λwx=>(Tryz.strings_Trim_one R 32 (by decide) wx (by omega)).mono (λe w' ⟨h1,h2⟩=>⟨h1,by rcases h2 with rfl|rfl;exact Below.refl _ _;exact(Below.refl _ _).drew⟩))
 have hsp:Hid (S.zcf s.data.toList=if (Lib.hasPrefix R.data.toList [32]&&Lib.hasSuffix R.data.toList [32])=true/\Lib.trimB R.data.toList 32≠[] then (R.data.toList.drop 1).take (R.data.toList.length-2) else R.data.toList):=hid (by unfold S.zcf;rw[gy])
 rw[show (⟨#[32]⟩:ByteArray).data.toList=[32] from rfl] at dw dx;clear hR gy hcb hmx;have hnil:=hid (λh h1=>zkm (l:=R.data.toList) h h1);cases hp:Lib.hasPrefix R.data.toList [32]
 ·rw[hp] at dw;have hfin:Hid (S.zcf s.data.toList=R.data.toList):=hid (by rw[hsp.out,hp];simp);clear hp;go_enter func199,ntmps199;go_wp2_with fail
  refine gq.out.mono ?_;rintro e w1⟨rfl,hb1⟩;have bg:=hid hb1;clear hb1;go_wp2_with (go_at_call 161;refine(dw.out _).mono ?_;rintro e w'⟨rfl,rfl⟩)
  go_ret;exact⟨R,rfl,hid hfin.out.symm,bg.out⟩
 ·rw[hp] at dw;cases hq:Lib.hasSuffix R.data.toList [32]
  ·rw[hq] at dx;have hfin:Hid (S.zcf s.data.toList=R.data.toList):=hid (by rw[hsp.out,hq];simp);clear hp hq;go_enter func199,ntmps199;go_wp2_with (fail);refine gq.out.mono ?_;rintro e w1⟨rfl,hb1⟩;have bg:=hid hb1;clear hb1;go_wp2_with (first|(go_at_call 161;refine(dw.out _).mono ?_;rintro e w'⟨rfl,rfl⟩)|(go_at_call 174;refine(dx.out _).mono ?_;rintro e w'⟨rfl,rfl⟩))
   go_ret;exact⟨R,rfl,hid hfin.out.symm,bg.out⟩
  ·rw[hq] at dx;by_cases ht:Lib.trimB R.data.toList 32=[]
   ·rw[ht] at hTr;have hfin:Hid (S.zcf s.data.toList=R.data.toList):=hid (by rw[hsp.out,ht];simp);clear hp hq ht;go_enter func199,ntmps199;go_wp2_with (fail);refine gq.out.mono ?_;rintro e w1⟨rfl,hb1⟩;have bg:=hid hb1;clear hb1;go_wp2_with (first|(go_at_call 161;refine(dw.out _).mono ?_;rintro e w'⟨rfl,rfl⟩)|(go_at_call 174;refine(dx.out _).mono ?_;rintro e w'⟨rfl,rfl⟩))
    refine(hTr.out _).mono ?_;rintro e w2⟨rfl,hb2⟩;have dh:=hid hb2;clear hb2;go_wp2;go_ret;exact⟨R,rfl,hid hfin.out.symm,bg.out.trans (dh.out.mono bg.out.size)⟩
   ·have jd:2<=R.size:=(by rw[<-S.lda];exact hnil.out ht hp);have hfin:Hid (S.zcf s.data.toList=(R.data.toList.drop 1).take (R.data.toList.length-2)):=hid (by rw[hsp.out,hp,hq,if_pos ⟨rfl,ht⟩]);obtain⟨T,hT⟩:∃T:ByteArray,T=⟨(Lib.trimB R.data.toList 32).toArray⟩:=⟨_,rfl⟩;have fq:0<T.size:=(by rw[hT,S.zhb];exact Qbf.2 ht);have jh:=S.zbo T fq;have hTe:=S.zb6 T fq;rw[<-hT] at hTr;clear hp hq ht hT;have hsub:(1:Int)<=(R.size:Int)-1:=(by omega);have jg:((R.size:Int)-1).toNat=R.size-1:=(by omega);go_enter func199,ntmps199;go_wp2_with (fail);refine gq.out.mono ?_;rintro e w1⟨rfl,hb1⟩;have bg:=hid hb1;clear hb1;go_wp2_with (first|(go_at_call 161;refine(dw.out _).mono ?_;rintro e w'⟨rfl,rfl⟩)|(go_at_call 174;refine(dx.out _).mono ?_;rintro e w'⟨rfl,rfl⟩))
    refine(hTr.out _).mono ?_;rintro e w2⟨rfl,hb2⟩;have dh:=hid hb2;clear hb2;go_wp2;go_ret;refine⟨R.extract 1 (s.size-1),rfl,hid ?_,bg.out.trans (dh.out.mono bg.out.size)⟩;rw[hfin.out,zd4,S.lda,hRs];congr 1
end Go.Proofs.YtlojgpkajkedeaaGreatDoor
