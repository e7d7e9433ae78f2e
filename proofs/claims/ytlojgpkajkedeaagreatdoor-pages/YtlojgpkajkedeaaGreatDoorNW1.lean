import Derived.Test.YtlojgpkajkedeaaGreatDoorNStr
import Derived.Test.YtlojgpkajkedeaaGreatDoorRows
import Derived.WalkKit
import Derived.WalkSpells
import Derived.WalkLawsBesides
set_option maxHeartbeats 16000000
set_option maxRecDepth 100000
namespace Go.Proofs.YtlojgpkajkedeaaGreatDoor
open Go.RowKit Go.Proofs.Tryz
theorem zak {k:IntKind}{a b:Int}(h:a=b):Ending.returned (.int k a)=.returned (.int k b):=by rw[h]
theorem zb1 {a b:Bool}(h:a=b):Ending.returned (.bool a)=.returned (.bool b):=by rw[h]
theorem hid {p:Prop}(h:p):Hid p:=h
theorem zcn (s:ByteArray)(c:UInt8)(w:World)(hs:s.size<=maxLen):Calls prog 165 #[.string s,.int .u8 (c.toNat:Int)] w λe w'=>e=.returned (.int .i64 (S.cnt c s.data.toList:Nat))/\w'=w:=by
 unfold maxLen at hs;go_enter func165,ntmps165;go_wp2;go_loop [5] (λi=>∃k:Nat,k<=s.size/\i=.int .i64 k/\∀j,j<k->s.data.toList[j]?=some c) (λi=>s.size-(intOf i).toNat)
 case atStart=>exact⟨0,Qt _,rfl,by intro j hj;omega⟩
 case round=>
  obtain⟨k,hk,rfl,hall⟩:=hrel;by_cases hlt:k<s.size
  ·have hg:s.data.toList[k]?=some s[k]:=S.zad s k hlt;by_cases hc:s[k]=c
   ·have h1:((s[k].toNat:Int) == (c.toNat:Int))=true:=(by simp[hc]);have bg:Hid (∀j,j<k+1->s.data.toList[j]?=some c):=by
     intro j hj;by_cases e:j=k
     ·subst e;rw[hg,hc]
     ·exact hall j (by omega)
    clear hg hall;go_wp2;exact⟨⟨k+1,by omega,by go_num,bg.out⟩,by simp[intOf];omega⟩
   ·have h1:((s[k].toNat:Int) == (c.toNat:Int))=false:=by
     rw[Qe];intro h;exact hc (Qk.1 (by omega))
    have hfin:Hid (S.cnt c s.data.toList=k):=S.zuw c _ k hall (by rw[hg];simpa using hc);clear hg hall;go_wp2;go_ret;exact⟨zak (by rw[hfin.out]),rfl⟩
  ·have hfin:Hid (S.cnt c s.data.toList=k):=S.zuw c _ k hall (by rw[Qr (by rw[S.lda];omega)];simp);clear hall;go_wp2;go_ret;exact⟨zak (by rw[hfin.out]),rfl⟩
theorem zba (s:ByteArray)(w:World)(hs:s.size<=maxLen):Calls prog 112 #[.string s] w λe w'=>e=.returned (.int .i64 (S.indent s.data.toList:Nat))/\w'=w:=by
 go_enter func112,ntmps112;go_wp2_with (go_at_call 165;refine(zcn _ 32 _ hs).mono ?_;rintro e w'⟨rfl,rfl⟩)
 go_ret;exact⟨rfl,rfl⟩
theorem zbc (s:ByteArray)(w:World)(hs:s.size<=maxLen):Calls prog 111 #[.string s] w λe w'=>e=.returned (.bool (S.blank s.data.toList))/\w'=w:=by
 have hb:Hid ((((S.indent s.data.toList:Nat):Int) == (s.size:Int))=S.blank s.data.toList):=by
  apply hid;unfold S.blank;rw[S.lda,Bool.eq_iff_iff,beq_iff_eq,decide_eq_true_iff];omega
 go_enter func111,ntmps111;go_wp2_with (go_at_call 112;refine(zba _ _ hs).mono ?_;rintro e w'⟨rfl,rfl⟩)
 go_ret;exact⟨zb1 hb.out,rfl⟩
theorem zfa (s:ByteArray)(n:Int)(w:World)(hs:s.size<=maxLen)(h0:0<=n)(h1:n<=9223372036854775807):Calls prog 167 #[.string s,.int .i64 n] w λe w'=>∃r:ByteArray,e=.returned (.string r)/\Hid (r.data.toList=s.data.toList.drop n.toNat)/\r.size<=s.size/\w'=w:=by
 unfold maxLen at hs;obtain⟨k,rfl⟩:=Int.eq_ofNat_of_zero_le h0;go_enter func167,ntmps167;go_wp2
 ·go_ret;exact⟨_,rfl,hid (by rw[Qw (by rw[S.lda];omega)];rfl),Qt _,rfl⟩
 ·go_ret;exact⟨_,rfl,hid (by rw[S.zbf]),by rw[ByteArray.size_extract];omega,rfl⟩
theorem zb4 (s:ByteArray)(w:World)(hs:s.size<=maxLen):Calls prog 168 #[.string s] w λe w'=>∃r:ByteArray,e=.returned (.string r)/\Hid (r.data.toList=S.shallow s.data.toList)/\r.size<=s.size/\w'=w:=by
 have hle:S.indent s.data.toList<=s.size:=by have:=S.zby s.data.toList;rw[S.lda] at this;exact this
 by_cases hd:4<=S.indent s.data.toList
 ·have hr:=hid (S.zgx _ hd);have hs':=hs;unfold maxLen at hs;go_enter func168,ntmps168;go_wp2_with (go_at_call 112;refine(zba _ _ hs').mono ?_;rintro e w'⟨rfl,rfl⟩)
  go_ret;exact⟨_,rfl,hid hr.out.symm,Qt _,rfl⟩
 ·have hr:=hid (S.zgn _ hd);have hs':=hs;unfold maxLen at hs;go_enter func168,ntmps168;go_wp2_with (go_at_call 112;refine(zba _ _ hs').mono ?_;rintro e w'⟨rfl,rfl⟩)
  go_ret;exact⟨_,rfl,hid (by rw[hr.out,S.zbf]),by rw[ByteArray.size_extract];omega,rfl⟩
theorem zfg (s:ByteArray)(k:Nat)(w:World)(hk:k<=s.size):Calls prog 171 #[.string s,.int .i64 (k:Int)] w λe w'=>e=.returned (.bool (S.zb7 s.data.toList k))/\w'=w:=by
 by_cases he:k=s.size
 ·have hr:Hid (S.zb7 s.data.toList k=true):=hid (by unfold S.zb7;rw[S.lda];simp[he]);have h1:((k:Int) == (s.size:Int))=true:=by simp[he]
  clear he;go_enter func171,ntmps171;go_wp2;go_ret;exact⟨zb1 hr.out.symm,rfl⟩
 ·have hlt:k<s.size:=by omega
  have hr:Hid ((((s[k].toNat:Int)) == 32)=S.zb7 s.data.toList k):=by
   apply hid;unfold S.zb7;rw[S.lda,S.zad s k hlt,decide_eq_false he,Bool.false_or,Bool.eq_iff_iff,beq_iff_eq,decide_eq_true_iff]
   constructor
   ·intro h;rw[show s[k]=32 from Qk.1 (by simp;omega)]
   ·intro h;simp only[Option.some.injEq] at h;rw[h];rfl
  have h1:((k:Int) == (s.size:Int))=false:=by rw[Qe];omega
  clear he;go_enter func171,ntmps171;go_wp2;go_ret;exact⟨zb1 hr.out,rfl⟩
theorem zeg (s:ByteArray)(w:World)(hs:s.size<=maxLen):Calls prog 115 #[.string s] w λe w'=>e=.returned (.int .i64 (S.zaq s.data.toList:Nat))/\w'=w:=by
 go_enter func115,ntmps115;go_wp2_with fail
 refine(zb4 _ _ hs).mono ?_;rintro e w'⟨r,rfl,hr,hle,rfl⟩;have hc:S.cnt 35 r.data.toList<=r.size:=by have:=S.zd3 35 r.data.toList;rw[S.lda] at this;exact this
 have hT:Hid (S.zaq s.data.toList=if 6<S.cnt 35 r.data.toList\/S.zb7 r.data.toList (S.cnt 35 r.data.toList)=false then 0 else S.cnt 35 r.data.toList):=hid (by unfold S.zaq;rw[hr.out])
 go_wp2_with fail
 refine(zcn r 35 _ (Qj hle hs)).mono ?_;rintro e w''⟨rfl,rfl⟩;by_cases h6:6<S.cnt 35 r.data.toList
 ·have hf:Hid (S.zaq s.data.toList=0):=hid (by rw[hT.out,if_pos (.inl h6)]);go_wp2;go_ret;exact⟨zak (by rw[hf.out];rfl),rfl⟩
 ·cases hE:S.zb7 r.data.toList (S.cnt 35 r.data.toList)
  ·have hf:Hid (S.zaq s.data.toList=0):=hid (by rw[hT.out,if_pos (.inr hE)]);go_wp2_with (go_at_call 171;refine(zfg r _ _ hc).mono ?_;rintro e w'⟨rfl,rfl⟩)
   go_ret;exact⟨zak (by rw[hf.out];rfl),rfl⟩
  ·have hf:Hid (S.zaq s.data.toList=S.cnt 35 r.data.toList):=hid (by rw[hT.out,if_neg (by rw[hE];simp;omega)]);go_wp2_with (go_at_call 171;refine(zfg r _ _ hc).mono ?_;rintro e w'⟨rfl,rfl⟩)
   go_ret;exact⟨zak (by rw[hf.out]),rfl⟩
theorem zlh (s:ByteArray)(c:UInt8)(w:World)(hs:s.size<=maxLen):Calls prog 224 #[.string s,.int .u8 (c.toNat:Int)] w λe w'=>e=.returned (.bool (S.rowOf s.data.toList c))/\w'=w:=by
 have hc:S.cnt c s.data.toList<=s.size:=by have:=S.zd3 c s.data.toList;rw[S.lda] at this;exact this
 have hT:Hid (S.rowOf s.data.toList c=(decide (0<S.cnt c s.data.toList)&&S.blank (s.data.toList.drop (S.cnt c s.data.toList)))):=hid rfl;have hs':=hs;unfold maxLen at hs;go_enter func224,ntmps224;go_wp2_with fail
 refine(zcn s c _ hs').mono ?_;rintro e w''⟨rfl,rfl⟩;by_cases h0:0<S.cnt c s.data.toList
 ·go_wp2_with fail
  refine(zbc _ _ (by rw[ByteArray.size_extract];exact Qj (by omega) hs')).mono ?_;rintro e w''⟨rfl,rfl⟩;go_wp2;go_ret;exact⟨zb1 (by rw[hT.out,decide_eq_true h0,Bool.true_and,Qbj (by rw[Qf,S.lda];omega)]),rfl⟩
 ·have hf:Hid (S.rowOf s.data.toList c=false):=hid (by rw[hT.out,decide_eq_false h0,Bool.false_and]);go_wp2;go_ret;exact⟨zb1 hf.out.symm,rfl⟩
theorem zbr (s:ByteArray)(w:World)(hs:s.size<=maxLen):Calls prog 184 #[.string s] w λe w'=>e=.returned (.int .i64 (S.zab s.data.toList:Nat))/\w'=w:=by
 go_enter func184,ntmps184;go_wp2_with fail
 refine(zb4 _ _ hs).mono ?_;rintro e w'⟨r,rfl,hr,hle,rfl⟩;have hT:Hid (S.zab s.data.toList=if S.rowOf r.data.toList 61=true then 1 else if S.rowOf r.data.toList 45=true then 2 else 0):=hid (by unfold S.zab;rw[hr.out])
 have hs':=Qj hle hs;go_wp2_with fail
 refine(zlh r 61 _ hs').mono ?_;rintro e w''⟨rfl,rfl⟩;cases h1:S.rowOf r.data.toList 61
 ·go_wp2_with fail
  refine(zlh r 45 _ hs').mono ?_;rintro e w''⟨rfl,rfl⟩;cases h2:S.rowOf r.data.toList 45
  ·have hf:Hid (S.zab s.data.toList=0):=hid (by rw[hT.out,h1,h2];rfl);go_wp2;go_ret;exact⟨zak (by rw[hf.out];rfl),rfl⟩
  ·have hf:Hid (S.zab s.data.toList=2):=hid (by rw[hT.out,h1,h2];rfl);go_wp2;go_ret;exact⟨zak (by rw[hf.out];rfl),rfl⟩
 ·have hf:Hid (S.zab s.data.toList=1):=hid (by rw[hT.out,h1];rfl);go_wp2;go_ret;exact⟨zak (by rw[hf.out];rfl),rfl⟩
def Row (w:World)(b o:Nat)(ss:List ByteArray):Prop:=∀i s,ss[i]?=some s->w.cell? ⟨b,o+i,none⟩=some (.string s)/\s.size<=140737488355328
def dat (ss:List ByteArray):List (List UInt8):=ss.map (λs=>s.data.toList)
theorem zd0 (ss:List ByteArray)(k:Nat):(dat ss)[k]?=ss[k]?.map (λs=>s.data.toList):=by simp[dat]
theorem zj6 (ss:List ByteArray)(k:Nat):dat (ss.drop k)=(dat ss).drop k:=by simp[dat]
theorem zai (ss:List ByteArray):(dat ss).length=ss.length:=by simp[dat]
theorem zdk (b o cap:Nat)(ss:List ByteArray)(w:World)(hl:ss.length<=140737488355328)(hrow:Row w b o ss):Calls prog 84 #[.slice (some ⟨b,o,none⟩) ss.length cap] w λe w'=>e=.returned (.int .i64 (S.za6 (dat ss):Nat))/\w'=w:=by
 go_enter func84,ntmps84;go_wp2;go_loop [3] (λi=>∃k:Nat,k<=ss.length/\i=.int .i64 k/\∀j,j<k->((dat ss)[j]?.map S.blank)=some true) (λi=>ss.length-(intOf i).toNat)
 case atStart=>exact⟨0,Qt _,rfl,by intro j hj;omega⟩
 case round=>
  obtain⟨k,hk,rfl,hall⟩:=hrel;by_cases hlt:k<ss.length
  ·obtain⟨s,hs⟩:∃s,ss[k]?=some s:=⟨ss[k],Qg hlt⟩;obtain⟨hcell,hsz'⟩:=hrow k s hs;have hsz:s.size<=maxLen:=by unfold maxLen;omega
   have hg:(dat ss)[k]?=some s.data.toList:=by rw[zd0,hs];rfl
   cases hbl:S.blank s.data.toList
   ·have hfin:Hid (S.za6 (dat ss)=k):=hid (S.ze7 _ k hall (by rw[hg,Option.map_some,hbl];simp));clear hg hall hs;go_wp2_with (go_at_call 111;refine(zbc _ _ hsz).mono ?_;rintro e w'⟨rfl,rfl⟩)
    go_ret;exact⟨zak (by rw[hfin.out]),rfl⟩
   ·have bg:Hid (∀j,j<k+1->((dat ss)[j]?.map S.blank)=some true):=by
     intro j hj;by_cases e:j=k
     ·subst e;rw[hg,Option.map_some,hbl]
     ·exact hall j (by omega)
    clear hg hall hs;go_wp2_with (go_at_call 111;refine(zbc _ _ hsz).mono ?_;rintro e w'⟨rfl,rfl⟩)
    exact⟨⟨k+1,by omega,by go_num,bg.out⟩,by simp[intOf];omega⟩
  ·have hfin:Hid (S.za6 (dat ss)=k):=hid (S.ze7 _ k hall (by rw[Qr (by rw[zai];omega)];simp));clear hall;go_wp2;go_ret;exact⟨zak (by rw[hfin.out]),rfl⟩
theorem zn4 (w:World):Calls prog 84 #[.slice none 0 0] w λe w'=>e=.returned (.int .i64 0)/\w'=w:=by
 go_enter func84,ntmps84;go_wp2;refine wp_loop_rounds 1 ?_;rw[rounds_succ];go_wp2;go_ret;exact⟨rfl,rfl⟩
theorem zil (b o cap:Nat)(ss:List ByteArray)(m:Int)(w:World)(hl:ss.length<=140737488355328)(hrow:Row w b o ss):Calls prog 166 #[.slice (some ⟨b,o,none⟩) ss.length cap,.int .i64 m] w λe w'=>e=.returned (.int .i64 (S.zax m (dat ss):Nat))/\w'=w:=by
 go_enter func166,ntmps166;go_wp2;go_loop [5,6] (λn i=>∃k z:Nat,1<=k/\z<=k/\k<=ss.length+1/\n=.int .i64 z/\i=.int .i64 k/\S.zax m (dat ss)=S.zb0 m z k ((dat ss).drop k)) (λ_ i=>ss.length+1-(intOf i).toNat)
 case atStart=>exact⟨1,1,by omega,by omega,by omega,rfl,rfl,by simp[S.zax]⟩
 case round=>
  obtain⟨k,z,hk,hz,hkl,rfl,rfl,hcd⟩:=hrel;by_cases hlt:k<ss.length
  ·obtain⟨s,hs⟩:∃s,ss[k]?=some s:=⟨ss[k],Qg hlt⟩;obtain⟨hcell,hsz'⟩:=hrow k s hs;have hsz:s.size<=maxLen:=by unfold maxLen;omega
   have hst:=S.zjm m z k (dat ss) s.data.toList (by rw[zd0,hs];rfl);rw[hst] at hcd;clear hst hs;cases hbl:S.blank s.data.toList
   ·rw[hbl,if_neg (by simp)] at hcd;by_cases hi:(S.indent s.data.toList:Int)<m
    ·rw[if_pos hi] at hcd;have hfin:=hid hcd;clear hcd;go_wp2_with (first|(go_at_call 111;refine(zbc _ _ hsz).mono ?_;rintro e w'⟨rfl,rfl⟩)|(go_at_call 112;refine(zba _ _ hsz).mono ?_;rintro e w'⟨rfl,rfl⟩))
     go_ret;exact⟨zak (by rw[hfin.out]),rfl⟩
    ·rw[if_neg hi] at hcd;have hfin:=hid hcd;clear hcd;go_wp2_with (first|(go_at_call 111;refine(zbc _ _ hsz).mono ?_;rintro e w'⟨rfl,rfl⟩)|(go_at_call 112;refine(zba _ _ hsz).mono ?_;rintro e w'⟨rfl,rfl⟩))
     exact⟨⟨k+1,k+1,by omega,by omega,by omega,by go_num,by go_num,hfin.out⟩,by simp[intOf];omega⟩
   ·rw[hbl,if_pos rfl] at hcd;have hfin:=hid hcd;clear hcd;go_wp2_with (first|(go_at_call 111;refine(zbc _ _ hsz).mono ?_;rintro e w'⟨rfl,rfl⟩)|(go_at_call 112;refine(zba _ _ hsz).mono ?_;rintro e w'⟨rfl,rfl⟩))
    exact⟨⟨k+1,z,by omega,by omega,by omega,rfl,by go_num,hfin.out⟩,by simp[intOf];omega⟩
  ·rw[S.zjr m z k _ (by rw[zai];omega)] at hcd;have hfin:=hid hcd;clear hcd;go_wp2;go_ret;exact⟨zak (by rw[hfin.out]),rfl⟩
end Go.Proofs.YtlojgpkajkedeaaGreatDoor
