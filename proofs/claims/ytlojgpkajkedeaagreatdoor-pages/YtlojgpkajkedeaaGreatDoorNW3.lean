import Derived.Test.YtlojgpkajkedeaaGreatDoorNStr
import Derived.Test.YtlojgpkajkedeaaGreatDoorNW1
import Derived.Test.YtlojgpkajkedeaaGreatDoorNShelf
import Derived.Test.YtlojgpkajkedeaaGreatDoorNShelfB
import Derived.RegionTactic
import Derived.ChangeAlike
set_option maxHeartbeats 16000000
set_option maxRecDepth 100000
namespace Go.Proofs.YtlojgpkajkedeaaGreatDoor
open Go.RowKit Go.Proofs.Tryz
theorem zg1 (s:ByteArray)(c:UInt8)(w:World):Calls prog 169 #[.string s,.int .u8 (c.toNat:Int)] w λe w'=>∃x:Int,e=.returned (.int .i64 x)/\Hid (x<0↔c ∉ s.data.toList)/\w'=w:=by
 refine(Tryz.strings_IndexByte s (c.toNat:Int) w).mono ?_;rintro e w'⟨rfl,rfl⟩;exact⟨_,rfl,hid (by rw[S.zf0];simp),rfl⟩
theorem zr1 (s:ByteArray)(c:UInt8)(w:World):Calls prog 170 #[.string s,.string ⟨#[c]⟩] w λe w'=>∃x:Nat,e=.returned (.int .i64 (x:Int))/\Hid (x=s.data.toList.count c)/\x<=s.size/\w'=w:=by
 refine(Tryz.strings_Count_one s c w).mono ?_;rintro e w'⟨rfl,rfl⟩;exact⟨_,rfl,hid rfl,by rw[<-S.lda];exact List.count_le_length,rfl⟩
theorem zdv (s:ByteArray)(w:World)(hs:s.size<=maxLen):Calls prog 114 #[.string s] w λe w'=>e=.returned (.bool (S.zbz s.data.toList))/\w'=w:=by
 unfold maxLen at hs;go_enter func114,ntmps114;go_wp2_with fail
 refine(zb4 _ _ (by unfold maxLen;omega)).mono ?_;rintro e w'⟨r,rfl,hr,hle,rfl⟩;by_cases hz:r.size=0
 ·have he:=S.zg6 r hz;have hf:Hid (S.zbz s.data.toList=false):=hid (S.zvq _ (by rw[<-hr.out];exact S.zeo r hz));clear hz;go_wp2;go_ret;exact⟨zb1 hf.out.symm,rfl⟩
 ·have hpos:0<r.size:=by omega
  have hne:=S.zb6 r hpos;clear hz;go_wp2_with fail
  refine(zg1 _ r[0] _).mono ?_;rintro e w''⟨x,rfl,hx,rfl⟩;by_cases hm:r[0]∈[(42:UInt8),45,95]
  ·have hx0:0<=x:=by have:=hx.out;simp only[List.mem_cons] at hm ⊢;by_cases hn:x<0;exact absurd (by simpa using hm) (by simpa using this.1 hn);omega
   have hf:Hid (S.zbz s.data.toList=(decide (3<=r.data.toList.count r[0])&&decide (r.data.toList.count r[0]+r.data.toList.count 32=r.size))):=hid (by
    rw[S.zvt _ _ _ (by rw[<-hr.out];exact S.zfy r hpos) hm,<-hr.out,S.lda])
   have hc32:Hid (r.data.toList.count r[0]+r.data.toList.count 32<=r.size):=hid (by
    rw[<-S.lda];exact S.zx3 _ _ _ (by intro h;rw[h] at hm;simp at hm))
   clear hm;go_wp2_with (fail);rw[S.zm7 r hpos];refine(zr1 _ _ _).mono ?_;rintro e w''⟨n,rfl,hn,hnl,rfl⟩;by_cases h3:3<=n
   ·go_wp2_with (fail);refine(zr1 _ 32 _).mono ?_;rintro e w''⟨m,rfl,hm,hml,rfl⟩;have hnm:n+m<=r.size:=(by rw[hn.out,hm.out];exact hc32.out);go_wp2;go_ret;refine⟨zb1 ?_,rfl⟩;rw[hf.out,<-hn.out,<-hm.out,decide_eq_true h3,Bool.true_and,Bool.eq_iff_iff,beq_iff_eq,decide_eq_true_iff];omega
   ·have hf2:Hid (S.zbz s.data.toList=false):=hid (by rw[hf.out,<-hn.out,decide_eq_false h3,Bool.false_and]);go_wp2;go_ret;exact⟨zb1 hf2.out.symm,rfl⟩
  ·have hx0:x<0:=hx.out.2 (by simpa using hm);have hf:Hid (S.zbz s.data.toList=false):=hid (S.zxb _ _ _ (by rw[<-hr.out];exact S.zfy r hpos) hm);clear hm;go_wp2;go_ret;exact⟨zb1 hf.out.symm,rfl⟩
theorem zds (s:ByteArray)(w:World)(hs:s.size<=maxLen):Calls prog 119 #[.string s] w λe w'=>e=.returned (.bool (S.zat s.data.toList))/\w'=w:=by
 go_enter func119,ntmps119;go_wp2_with fail
 refine(zb4 _ _ hs).mono ?_;rintro e w'⟨r,rfl,hr,hle,rfl⟩;have hf:Hid (S.zat s.data.toList=Lib.hasPrefix r.data.toList [62]):=hid (by unfold S.zat;rw[hr.out]);go_wp2_with fail
 refine(Tryz.strings_HasPrefix _ _ _).mono ?_;rintro e w'⟨rfl,rfl⟩;go_wp2;go_ret;exact⟨zb1 (by rw[hf.out]),rfl⟩
theorem zrh (s:ByteArray)(w:World)(hs:s.size<=maxLen)(hq:S.shallow s.data.toList≠[]):Calls prog 177 #[.string s] w λe w'=>∃r:ByteArray,e=.returned (.string r)/\Hid (r.data.toList=S.zcv s.data.toList)/\r.size<=s.size/\w'=w:=by
 go_enter func177,ntmps177;go_wp2_with fail
 refine(zb4 _ _ hs).mono ?_;rintro e w'⟨r,rfl,hr,hle,rfl⟩;have hpos:1<=r.size:=by
  have:r.data.toList≠[]:=by rw[hr.out];exact hq
  rw[<-S.lda];exact Qbf.2 this
 have hf:Hid (S.zcv s.data.toList=Lib.trimPrefix (r.data.toList.drop 1) [32]):=hid (by unfold S.zcv;rw[hr.out]);have hsz:Hid ((S.zcv s.data.toList).length<=s.size):=hid (by
  rw[hf.out];have:=Lib.trimPrefix_le (r.data.toList.drop 1) [32];rw[Qf,S.lda] at this;omega)
 clear hq;go_wp2_with fail
 refine(Tryz.strings_TrimPrefix _ _ _).mono ?_;rintro e w'⟨rfl,rfl⟩;go_wp2;go_ret;refine⟨_,rfl,hid ?_,?_,rfl⟩
 ·rw[hf.out,S.zjv,Qbj (by rw[List.length_tail,S.lda];omega),List.drop_one]
 ·rw[S.zhb,Qbj (by rw[List.length_tail,S.lda];omega),<-List.drop_one,<-hf.out];exact hsz.out
theorem zes (s:ByteArray)(c:UInt8)(hc:c.toNat<128)(w:World)(hs:s.size<=maxLen):Calls prog 173 #[.string s,.string ⟨#[c]⟩] w λe w'=>∃r:ByteArray,e=.returned (.string r)/\Hid (r.data.toList=Lib.trimRightB s.data.toList c)/\r.size<=s.size/\w'=w:=by
 refine(Tryz.strings_TrimRight_one s c hc w (by unfold maxLen at hs;omega)).mono ?_;rintro e w'⟨rfl,rfl⟩;exact⟨_,rfl,hid (S.zjv _),by rw[S.zhb,<-S.lda];exact S.zcm _ _,rfl⟩
theorem z19 (s:ByteArray)(c:UInt8)(hc:c.toNat<128)(w:World)(hs:s.size<=maxLen):Calls prog 172 #[.string s,.string ⟨#[c]⟩] w λe w'=>∃r:ByteArray,e=.returned (.string r)/\Hid (r.data.toList=Lib.trimB s.data.toList c)/\r.size<=s.size/\Below w.heap.size w w':=by
 refine(Tryz.strings_Trim_one s c hc w (by unfold maxLen at hs;omega)).mono ?_;rintro e w'⟨rfl,hw⟩;refine⟨_,rfl,hid (S.zjv _),by rw[S.zhb,<-S.lda];exact S.zhm _ _,?_⟩;rcases hw with rfl|rfl
 ·exact Below.refl _ _
 ·exact(Below.refl _ _).drew
theorem zko (s:ByteArray)(w:World)(hs:s.size<=maxLen):Calls prog 116 #[.string s] w λe w'=>∃r:ByteArray,e=.returned (.string r)/\Hid (r.data.toList=S.zal s.data.toList)/\r.size<=s.size/\Below w.heap.size w w':=by
 have hs':=hs;unfold maxLen at hs;go_enter func116,ntmps116;go_wp2_with fail
 refine(zb4 _ _ hs').mono ?_;rintro e w'⟨r,rfl,hr,hle,rfl⟩;have hc:S.cnt 35 r.data.toList<=r.size:=by have:=S.zd3 35 r.data.toList;rw[S.lda] at this;exact this
 go_wp2_with fail
 refine(zcn r 35 _ (Qj hle hs')).mono ?_;rintro e w''⟨rfl,rfl⟩;go_wp2_with fail
 refine(z19 _ 32 (by decide) _ (by rw[ByteArray.size_extract];exact Qj (by omega) hs')).mono ?_;rintro e w1⟨c,rfl,hcd,hcl,hb⟩;have bg:c.size<=s.size:=by rw[ByteArray.size_extract] at hcl;omega
 have hO:Hid (c.data.toList=S.zb3 s.data.toList):=hid (by rw[hcd.out,S.zbf];unfold S.zb3;rw[hr.out]);clear hcl hcd;go_wp2_with fail
 refine(zes c 35 (by decide) _ (Qj bg hs')).mono ?_;rintro e w''⟨o,rfl,hod,hol,rfl⟩;have hT:Hid (S.zal s.data.toList=if o.data.toList.isEmpty=true\/Lib.hasSuffix o.data.toList [32]=true then Lib.trimRightB o.data.toList 32 else c.data.toList):=hid (by
  unfold S.zal;rw[<-hO.out,<-hod.out])
 by_cases hz:o.size=0
 ·have he:=S.zg6 o hz;have hf:Hid (S.zal s.data.toList=Lib.trimRightB o.data.toList 32):=hid (by rw[hT.out,if_pos (.inl (by rw[S.zeo o hz];rfl))]);clear hz;go_wp2_with (go_at_call 173;refine(zes o 32 (by decide) _ (Qj (Qj hol bg) hs')).mono ?_;rintro e w''⟨q,rfl,hq,dh,rfl⟩)
  go_ret;exact⟨_,rfl,hid (by rw[hf.out,hq.out]),by omega,hb⟩
 ·have hpos:0<o.size:=by omega
  have hne:=S.zb6 o hpos;have hne':=S.zbo o hpos;clear hz;go_wp2_with fail
  refine(Tryz.strings_HasSuffix _ _ _ (by omega)).mono ?_;rintro e w''⟨rfl,rfl⟩;generalize hx:Lib.hasSuffix o.data.toList _=x;cases x
  ·have hf:Hid (S.zal s.data.toList=c.data.toList):=hid (by
    rw[hT.out,if_neg];rintro(h|h)
    ·rw[<-Lib.toList_data,hne] at h;simp at h
    ·rw[show ([32]:List UInt8)=(ByteArray.mk #[32]).data.toList from rfl,hx] at h;simp at h)
   go_wp2;go_ret;exact⟨_,rfl,hid hf.out.symm,bg,hb⟩
  ·have hf:Hid (S.zal s.data.toList=Lib.trimRightB o.data.toList 32):=hid (by rw[hT.out,if_pos (.inr hx)]);go_wp2_with (go_at_call 173;refine(zes o 32 (by decide) _ (Qj (Qj hol bg) hs')).mono ?_;rintro e w''⟨q,rfl,hq,dh,rfl⟩)
   go_ret;exact⟨_,rfl,hid (by rw[hf.out,hq.out]),by omega,hb⟩
theorem zkl (c:UInt8)(width ind:Int)(info s:ByteArray)(w:World)(hs:s.size<=maxLen):Calls prog 176 #[.agg #[.int .u8 (c.toNat:Int),.int .i64 width,.int .i64 ind,.string info],.string s] w λe w'=>e=.returned (.bool (S.zcg c width s.data.toList))/\Below w.heap.size w w':=by
 have hs':=hs;unfold maxLen at hs;go_enter func176,ntmps176;go_wp2_with fail
 refine(zb4 _ _ hs').mono ?_;rintro e w'⟨r,rfl,hr,hle,rfl⟩;have hc:S.cnt c r.data.toList<=r.size:=by have:=S.zd3 c r.data.toList;rw[S.lda] at this;exact this
 have hT:Hid (S.zcg c width s.data.toList=(decide (width<=(S.cnt c r.data.toList:Int))&&S.blank (r.data.toList.drop (S.cnt c r.data.toList)))):=hid (by unfold S.zcg;rw[hr.out]);go_wp2_with fail
 refine(zcn r c _ (Qj hle hs')).mono ?_;rintro e w''⟨rfl,rfl⟩;by_cases h0:width<=(S.cnt c r.data.toList:Int)
 ·go_wp2_with fail
  refine(zbc _ _ (by rw[ByteArray.size_extract];exact Qj (by omega) hs')).mono ?_;rintro e w''⟨rfl,rfl⟩;go_wp2;go_ret;exact⟨zb1 (by rw[hT.out,decide_eq_true h0,Bool.true_and,Qbj (by rw[Qf,S.lda];omega)]),(Below.refl _ _).alloc (Qc _) _⟩
 ·have hf:Hid (S.zcg c width s.data.toList=false):=hid (by rw[hT.out,decide_eq_false h0,Bool.false_and]);go_wp2;go_ret;exact⟨zb1 hf.out.symm,(Below.refl _ _).alloc (Qc _) _⟩
def Env (w:World):Prop:=
 (∃ev,w.cell? ⟨3,0,none⟩=some ev/\(ev=.nilIface\/∃te pe,ev=.iface te pe))/\(∃m:Int,w.cell? ⟨0,0,none⟩=some (.int .i64 m))/\3<w.heap.size/\0<w.heap.size
theorem Env.below {w w':World}(h:Env w)(hb:Below w.heap.size w w'):Env w':=by
 obtain⟨⟨ev,h1,h2⟩,⟨m,h3⟩,h4,h5⟩:=h;have:=hb.size;exact⟨⟨ev,(hb.cell (p:=⟨3,0,none⟩) h4).trans h1,h2⟩,⟨m,(hb.cell (p:=⟨0,0,none⟩) h5).trans h3⟩,by omega,by omega⟩
theorem zhv (s:ByteArray)(w:World)(hs:s.size<=maxLen):Calls prog 178 #[.string s] w λe w'=>e=.returned (.int .i64 (S.za5 s.data.toList:Nat))/\w'=w:=by
 unfold maxLen at hs;go_enter func178,ntmps178;go_wp2;go_loop [3] (λi=>∃k:Nat,k<=s.size/\i=.int .i64 k/\∀j,j<k->(s.data.toList[j]?.map S.zg9)=some true) (λi=>s.size-(intOf i).toNat)
 case atStart=>exact⟨0,Qt _,rfl,by intro j hj;omega⟩
 case round=>
  obtain⟨k,hk,rfl,hall⟩:=hrel;by_cases hlt:k<s.size
  ·have hg:s.data.toList[k]?=some s[k]:=S.zad s k hlt;cases hd:S.zg9 s[k]
   ·have hfin:=hid (S.zxv _ k hall (by rw[hg,Option.map_some,hd];simp));have hor:(s[k].toNat:Int)<48\/(57:Int)<s[k].toNat:=by
     simp only[S.zg9,Bool.and_eq_false_iff,decide_eq_false_iff_not] at hd;omega
    have dx:=hid hg;clear hall hg hd;by_cases h6:6<k
    ·have hr:Hid (S.za5 s.data.toList=0):=hid (S.zgl _ (by rw[hfin.out];exact h6));have hk0:((k:Int) == 0)=false:=(by rw[Qe];omega);rcases hor with h1|h1
     all_goals
      go_wp2;go_ret;exact⟨zak (by rw[hr.out];rfl),rfl⟩
    ·have hke:((k:Int) == (s.size:Int))=false:=(by rw[Qe];omega);have fin:∀(x:Int) (l:List UInt8),l=S.zc3 k->(x<0↔s[k] ∉ l)->(S.za5 s.data.toList:Int)=if x<0 then 0 else (k:Int)+1:=by
      intro x l hl hx;by_cases hm:s[k]∈S.zc3 k
      ·rw[if_neg (by rw[hx,hl];simpa using hm),S.zi1 _ s[k] (by rw[hfin.out];exact h6) (by rw[hfin.out];exact dx.out) (by rw[hfin.out];exact hm),hfin.out];rfl
      ·rw[if_pos (by rw[hx,hl];exact hm),S.zin _ s[k] (by rw[hfin.out];exact dx.out) (by rw[hfin.out];exact hm)];rfl
     have dw:=hid fin;clear fin;by_cases hk0:k=0
     ·subst hk0;have fq:((0:Int) == (s.size:Int))=false:=(by rw[Qe];omega);clear hke;rcases hor with h1|h1
      all_goals
       go_wp2_with (fail);refine(zg1 _ s[0] _).mono ?_;rintro e w''⟨x,rfl,hx,rfl⟩;have hF:=hid (dw.out x _ rfl hx.out);by_cases hx0:x<0
       ·have bg:Hid ((S.za5 s.data.toList:Int)=0):=hid (by rw[hF.out,if_pos hx0]);go_wp2;go_ret;exact⟨zak bg.out.symm,rfl⟩
       ·have bg:Hid ((S.za5 s.data.toList:Int)=1):=hid (by rw[hF.out,if_neg hx0];rfl);go_wp2;go_ret;exact⟨zak bg.out.symm,rfl⟩
     ·have hk1:((k:Int) == 0)=false:=(by rw[Qe];omega);have hme:Hid (S.zc3 k=[46,41]):=hid (by unfold S.zc3;rw[if_neg hk0]);clear hk0;rcases hor with h1|h1
      all_goals
       go_wp2_with (fail);refine(zg1 _ s[k] _).mono ?_;rintro e w''⟨x,rfl,hx,rfl⟩;have hF:=hid (dw.out x _ hme.out.symm hx.out);by_cases hx0:x<0
       ·have bg:Hid ((S.za5 s.data.toList:Int)=0):=hid (by rw[hF.out,if_pos hx0]);go_wp2;go_ret;exact⟨zak bg.out.symm,rfl⟩
       ·have bg:Hid ((S.za5 s.data.toList:Int)=(k:Int)+1):=hid (by rw[hF.out,if_neg hx0]);go_wp2;go_ret;exact⟨zak bg.out.symm,rfl⟩
   ·have dh:Hid (∀j,j<k+1->(s.data.toList[j]?.map S.zg9)=some true):=by
     intro j hj;by_cases e:j=k
     ·subst e;rw[hg,Option.map_some,hd]
     ·exact hall j (by omega)
    have hand:(48:Int)<=s[k].toNat/\(s[k].toNat:Int)<=57:=by
     simp only[S.zg9,Bool.and_eq_true,decide_eq_true_eq] at hd;omega
    obtain⟨h1,h2⟩:=hand;clear hall hg hd;go_wp2;exact⟨⟨k+1,by omega,by go_num,dh.out⟩,by simp[intOf];omega⟩
  ·have hfin:=hid (S.zxv _ k hall (by rw[Qr (by rw[S.lda];omega)];simp));have hr:Hid (S.za5 s.data.toList=0):=hid (S.zhx _ (by rw[hfin.out,S.lda];omega));have hke:((k:Int) == (s.size:Int))=true:=by rw[beq_iff_eq];omega
   clear hall;by_cases h6:6<k
   ·have hk0:((k:Int) == 0)=false:=(by rw[Qe];omega);go_wp2;go_ret;exact⟨zak (by rw[hr.out];rfl),rfl⟩
   ·by_cases hk0:k=0
    ·have hk1:((k:Int) == 0)=true:=(by rw[beq_iff_eq];omega);clear hk0;go_wp2;go_ret;exact⟨zak (by rw[hr.out];rfl),rfl⟩
    ·have hk1:((k:Int) == 0)=false:=(by rw[Qe];omega);clear hk0;go_wp2;go_ret;exact⟨zak (by rw[hr.out];rfl),rfl⟩
theorem zkt (s:ByteArray)(w:World)(hpos:1<=s.size)(h6:s.size<=7)(hd:∀x∈s.data.toList.take (s.size-1),S.zg9 x=true)(henv:Env w):Calls prog 179 #[.string s] w λe w'=>e=.returned (.int .i64 (S.number (s.data.toList.take (s.size-1))))/\Below w.heap.size w w':=by
 obtain⟨k,hk⟩:∃k,s.size=k+1:=⟨s.size-1,by omega⟩;have hlen:(s.extract 0 k).size=k:=by rw[ByteArray.size_extract];omega
 have htk:Hid ((s.extract 0 k).data.toList=s.data.toList.take (s.size-1)):=hid (by rw[S.zjk,hk];rfl);have hsub:((s.size:Int)-1)=(k:Int):=by omega
 by_cases h0:k=0
 ·have hN:Hid (S.number (s.data.toList.take (s.size-1)) = -1):=hid (by rw[hk,h0];rfl);obtain⟨⟨ev,dh,bg⟩,_⟩:=henv;subst h0;have hA:Lib.atoiAll (s.extract 0 0).data.toList=.«syntax»:=by rw[S.zjk];rfl
  have fq:=hid hA;clear hA hd hlen htk;have hsz:s.size=1:=by omega
  go_enter func179,ntmps179;go_wp2_with fail
  refine(Tryz.strconv_Atoi_syntax ByteArray.empty (by decide) rfl ev _ dh bg).mono ?_;rintro e w1⟨N,rfl,hN1,dx,hb⟩;go_wp2;go_ret;exact⟨zak hN.out.symm,hb⟩
 ·have hne:(s.data.toList.take (s.size-1))≠[]:=by
   intro h;have:=congrArg List.length h;rw[Ql,S.lda] at this;simp at this;omega
  have hN:Hid (S.number (s.data.toList.take (s.size-1))=(S.dec (s.data.toList.take (s.size-1)):Int)):=hid (by unfold S.number;rw[if_neg hne]);have hA:Hid (Lib.atoi (s.extract 0 k).data.toList=some (S.dec (s.data.toList.take (s.size-1)):Int)):=hid (by
   rw[htk.out];exact S.z0s _ hne hd)
  have dw:=hid hk;have hks:k<s.size:=by omega
  clear hk hd hne h0;go_enter func179,ntmps179;go_wp2_with fail
  refine(Tryz.strconv_Atoi _ _ (by rw[ByteArray.size_extract];omega) hA.out _).mono ?_;rintro e w1⟨rfl,t,rfl⟩;have hb:=Lib.bytesWorld_below w 5 t;go_wp2;go_ret;exact⟨zak hN.out.symm,hb⟩
theorem zie (kind number zaa:Int)(empty:Bool)(w:World):Calls prog 222 #[.agg #[.int .u8 kind,.int .i64 number,.int .i64 zaa,.bool empty]] w λe w'=>e=.returned (.bool (!empty&&(number == -1||number == 1)))/\Below w.heap.size w w':=by
 cases empty
 ·by_cases h1:number = -1
  ·have h1':(number == -1)=true:=by simp[h1]
   have hf:Hid ((!false&&(number == -1||number == 1))=true):=hid (by simp[h1]);clear h1;go_enter func222,ntmps222;go_wp2;go_ret;exact⟨zb1 hf.out.symm,(Below.refl _ _).alloc (Qc _) _⟩
  ·have h1':(number == -1)=false:=by simp[h1]
   have hf:Hid ((number == 1)=(!false&&(number == -1||number == 1))):=hid (by simp[h1]);clear h1;go_enter func222,ntmps222;go_wp2;go_ret;exact⟨zb1 hf.out,(Below.refl _ _).alloc (Qc _) _⟩
 ·have hf:Hid ((!true&&(number == -1||number == 1))=false):=hid (by simp);go_enter func222,ntmps222;go_wp2;go_ret;exact⟨zb1 hf.out.symm,(Below.refl _ _).alloc (Qc _) _⟩
theorem znt (s:ByteArray)(w:World)(hs:s.size<=maxLen)(hn:∀c t,S.shallow s.data.toList=c::t->c≠96/\c≠126):Calls prog 117 #[.string s] w λe w'=>e=.returned (.tuple #[.agg #[.int .u8 0,.int .i64 0,.int .i64 0,.string ⟨#[]⟩],.bool false])/\Below w.heap.size w w':=by
 go_enter func117,ntmps117;go_wp2_with fail
 refine(zb4 _ _ hs).mono ?_;rintro e w'⟨r,rfl,hr,hle,rfl⟩;by_cases hz:r.size=0
 ·have he:=S.zg6 r hz;clear hz hn;go_wp2;exact bodyPost_ret (v:=.tuple #[.agg #[.int .u8 0,.int .i64 0,.int .i64 0,.string ⟨#[]⟩],.bool false]) (by simp[results,results117,go_sem]) rfl ⟨rfl,(Below.refl _ _).alloc (Qc _) _⟩
 ·have hpos:0<r.size:=by omega
  have hne:=S.zb6 r hpos;have hc:=hn r[0] _ (by rw[<-hr.out];exact S.zfy r hpos);have h1:((r[0].toNat:Int) != 96)=true:=by rw[bne_iff_ne];intro h;exact hc.1 (Qk.1 (by simp;omega))
  have h2:((r[0].toNat:Int) != 126)=true:=by rw[bne_iff_ne];intro h;exact hc.2 (Qk.1 (by simp;omega))
  clear hz hn hc;go_wp2;exact bodyPost_ret (v:=.tuple #[.agg #[.int .u8 0,.int .i64 0,.int .i64 0,.string ⟨#[]⟩],.bool false]) (by simp[results,results117,go_sem]) rfl ⟨rfl,(Below.refl _ _).alloc (Qc _) _⟩
end Go.Proofs.YtlojgpkajkedeaaGreatDoor
