import Derived.Test.YtlojgpkajkedeaaGreatDoorNW3
import Derived.Deep.RegionHeld3
import Derived.Deep.DeepCutAuto
set_option maxHeartbeats 16000000
set_option maxRecDepth 100000
namespace Go.Proofs.YtlojgpkajkedeaaGreatDoor
open Go.RowKit Go.Proofs.Tryz
theorem zr3 (s:ByteArray)(c:UInt8)(w:World):Calls prog 175 #[.string s,.string ⟨#[c]⟩] w λe w'=>∃x:Bool,e=.returned (.bool x)/\Hid (decide (c∈s.data.toList)=x)/\w'=w:=by
 refine(Tryz.strings_Contains_one s c w).mono ?_;rintro e w'⟨rfl,rfl⟩;refine⟨_,rfl,hid ?_,rfl⟩;have:=S.zf0 s.data.toList c;rw[Bool.eq_iff_iff,decide_eq_true_iff,decide_eq_true_iff];constructor
 ·intro h;have h2:¬Lib.indexByte s.data.toList c<0:=λh3=>(this.1 h3) h;omega
 ·intro h;exact Classical.not_not.1 (λh3=>by have:=this.2 h3;omega)
theorem zga (s:ByteArray)(c:UInt8)(hc:c.toNat<128)(w:World)(hs:s.size<=maxLen):Calls prog 172 #[.string s,.string ⟨#[c]⟩] w λe w'=>∃r:ByteArray,e=.returned (.string r)/\Hid (r.data.toList=Lib.trimB s.data.toList c)/\r.size<=s.size/\(w'=w\/w'=w.drew):=by
 refine(Tryz.strings_Trim_one s c hc w (by unfold maxLen at hs;omega)).mono ?_;rintro e w'⟨rfl,hw⟩;exact⟨_,rfl,hid (S.zjv _),by rw[S.zhb,<-S.lda];exact S.zhm _ _,hw⟩
theorem zp7 (s:ByteArray)(w:World)(hs:s.size<=maxLen)(t:List UInt8)(hc:S.shallow s.data.toList=96::t):Calls prog 117 #[.string s] w λe w'=>∃info:ByteArray,e=.returned (.tuple #[.agg #[.int .u8 96,.int .i64 (S.cnt 96 (96::t):Nat),.int .i64 (S.indent s.data.toList:Nat),.string info],.bool (S.zcj 96 (S.cnt 96 (96::t)) info.data.toList)])/\Hid (info.data.toList=Lib.trimB ((96::t).drop (S.cnt 96 (96::t))) 32)/\info.size<=s.size/\Below w.heap.size w w':=by
 have hs':=hs;unfold maxLen at hs;have hil:S.indent s.data.toList<=s.size:=by have:=S.zby s.data.toList;rw[S.lda] at this;exact this
 go_enter func117,ntmps117;go_wp2_with fail
 refine(zb4 _ _ hs').mono ?_;rintro e w'⟨r,rfl,hr,hle,rfl⟩;have hrc:r.data.toList=96::t:=by rw[hr.out,hc]
 have hpos:0<r.size:=by rw[<-S.lda,hrc];simp
 have hne:=S.zb6 r hpos;have hr0:r[0]=96:=by have:=S.zfy r hpos;rw[hrc] at this;simp at this;exact this.symm
 have h1:((r[0].toNat:Int) != 96)=false:=by rw[hr0];rfl
 have hcl:S.cnt 96 r.data.toList<=r.size:=by have:=S.zd3 96 r.data.toList;rw[S.lda] at this;exact this
 have bg:=hid hrc;have fq:(r[0].toNat:Int)=96:=by rw[hr0];rfl
 clear hrc hr0 hc;go_wp2;go_cut [5] (λs5 wx=>s5=.pointer (some ⟨w.heap.size+1,0,none⟩)/\wx=((w.alloc (.cells #[.int .u8 0,.int .i64 0,.int .i64 0,.string ⟨#[]⟩] 181)).alloc (.cells #[.int .u8 96,.int .i64 (S.cnt 96 r.data.toList:Nat),.int .i64 (S.indent s.data.toList:Nat),.string ⟨#[]⟩] 181)).drew)
 case first=>
  go_region_held3 (λw'=>True) (trivial) (first|(go_at_call 165;refine(zcn r 96 _ (Qj hle hs')).mono ?_;rintro e w''⟨rfl,rfl⟩)|(go_at_call 112;refine(zba s _ hs').mono ?_;rintro e w''⟨rfl,rfl⟩))
  all_goals (go_wp2_with fail;go_meet;exact⟨rfl,rfl⟩)
 case rest=>
  obtain⟨rfl,rfl⟩:=hcut;go_wp2_with fail
  refine(zga _ 32 (by decide) _ (by rw[ByteArray.size_extract];exact Qj (by omega) hs')).mono ?_;rintro e w1⟨info,rfl,dx,dw,hw1⟩;have dh:info.size<=s.size:=by rw[ByteArray.size_extract] at dw;omega
  have hI:Hid (info.data.toList=Lib.trimB ((96::t).drop (S.cnt 96 (96::t))) 32):=hid (by rw[dx.out,S.zbf,bg.out]);clear dw dx;rcases hw1 with rfl|rfl
  all_goals
   go_wp2_with (fail);refine(zr3 _ 96 _).mono ?_;rintro e w''⟨x,rfl,hx,rfl⟩;have hfx:Hid (S.zcj 96 (S.cnt 96 (96::t)) info.data.toList=(decide (3<=S.cnt 96 r.data.toList)&&!x)):=hid (by unfold S.zcj;rw[hx.out,bg.out];rfl);cases x
   all_goals
    by_cases h3:3<=S.cnt 96 r.data.toList
    ·have hf:Hid (S.zcj 96 (S.cnt 96 (96::t)) info.data.toList=_):=hid (by rw[hfx.out,decide_eq_true h3,Bool.true_and]);go_wp2;refine bodyPost_ret (v:=.tuple #[.agg #[.int .u8 96,.int .i64 (S.cnt 96 r.data.toList:Nat),.int .i64 (S.indent s.data.toList:Nat),.string info],.bool _]) (by simp[results,results117,go_sem];rfl) rfl ⟨info,?_,hI,dh,?_⟩
     ·rw[hf.out,bg.out];rfl
     ·repeat apply Below.drew
      exact((Below.refl _ _).alloc (Qc _) _).alloc (by simp) _
    ·have hf:Hid (S.zcj 96 (S.cnt 96 (96::t)) info.data.toList=false):=hid (by rw[hfx.out,decide_eq_false h3,Bool.false_and]);go_wp2;refine bodyPost_ret (v:=.tuple #[.agg #[.int .u8 96,.int .i64 (S.cnt 96 r.data.toList:Nat),.int .i64 (S.indent s.data.toList:Nat),.string info],.bool false]) (by simp[results,results117,go_sem]) rfl ⟨info,?_,hI,dh,?_⟩
     ·rw[hf.out,bg.out]
     ·repeat apply Below.drew
      exact((Below.refl _ _).alloc (Qc _) _).alloc (by simp) _
theorem zpa (s:ByteArray)(w:World)(hs:s.size<=maxLen)(t:List UInt8)(hc:S.shallow s.data.toList=126::t):Calls prog 117 #[.string s] w λe w'=>∃info:ByteArray,e=.returned (.tuple #[.agg #[.int .u8 126,.int .i64 (S.cnt 126 (126::t):Nat),.int .i64 (S.indent s.data.toList:Nat),.string info],.bool (S.zcj 126 (S.cnt 126 (126::t)) info.data.toList)])/\Hid (info.data.toList=Lib.trimB ((126::t).drop (S.cnt 126 (126::t))) 32)/\info.size<=s.size/\Below w.heap.size w w':=by
 have hs':=hs;unfold maxLen at hs;have hil:S.indent s.data.toList<=s.size:=by have:=S.zby s.data.toList;rw[S.lda] at this;exact this
 go_enter func117,ntmps117;go_wp2_with fail
 refine(zb4 _ _ hs').mono ?_;rintro e w'⟨r,rfl,hr,hle,rfl⟩;have hrc:r.data.toList=126::t:=by rw[hr.out,hc]
 have hpos:0<r.size:=by rw[<-S.lda,hrc];simp
 have hne:=S.zb6 r hpos;have hr0:r[0]=126:=by have:=S.zfy r hpos;rw[hrc] at this;simp at this;exact this.symm
 have h1:((r[0].toNat:Int) != 96)=true:=by rw[hr0];rfl
 have h2:((r[0].toNat:Int) != 126)=false:=by rw[hr0];rfl
 have hcl:S.cnt 126 r.data.toList<=r.size:=by have:=S.zd3 126 r.data.toList;rw[S.lda] at this;exact this
 have bg:=hid hrc;have fq:(r[0].toNat:Int)=126:=by rw[hr0];rfl
 clear hrc hr0 hc;go_wp2;go_cut [5] (λs5 wx=>s5=.pointer (some ⟨w.heap.size+1,0,none⟩)/\wx=((w.alloc (.cells #[.int .u8 0,.int .i64 0,.int .i64 0,.string ⟨#[]⟩] 181)).alloc (.cells #[.int .u8 126,.int .i64 (S.cnt 126 r.data.toList:Nat),.int .i64 (S.indent s.data.toList:Nat),.string ⟨#[]⟩] 181)).drew)
 case first=>
  go_region_held3 (λw'=>True) (trivial) (first|(go_at_call 165;refine(zcn r 126 _ (Qj hle hs')).mono ?_;rintro e w''⟨rfl,rfl⟩)|(go_at_call 112;refine(zba s _ hs').mono ?_;rintro e w''⟨rfl,rfl⟩))
  all_goals (go_wp2_with fail;go_meet;exact⟨rfl,rfl⟩)
 case rest=>
  obtain⟨rfl,rfl⟩:=hcut;go_wp2_with fail
  refine(zga _ 32 (by decide) _ (by rw[ByteArray.size_extract];exact Qj (by omega) hs')).mono ?_;rintro e w1⟨info,rfl,dx,dw,hw1⟩;have dh:info.size<=s.size:=by rw[ByteArray.size_extract] at dw;omega
  have hI:Hid (info.data.toList=Lib.trimB ((126::t).drop (S.cnt 126 (126::t))) 32):=hid (by rw[dx.out,S.zbf,bg.out]);clear dw dx;rcases hw1 with rfl|rfl
  all_goals
   have hfx:Hid (S.zcj 126 (S.cnt 126 (126::t)) info.data.toList=decide (3<=S.cnt 126 r.data.toList)):=hid (by unfold S.zcj;rw[bg.out];simp);by_cases h3:3<=S.cnt 126 r.data.toList
   ·have hf:Hid (S.zcj 126 (S.cnt 126 (126::t)) info.data.toList=true):=hid (by rw[hfx.out,decide_eq_true h3]);go_wp2;refine bodyPost_ret (v:=.tuple #[.agg #[.int .u8 126,.int .i64 (S.cnt 126 r.data.toList:Nat),.int .i64 (S.indent s.data.toList:Nat),.string info],.bool true]) (by simp[results,results117,go_sem]) rfl ⟨info,?_,hI,dh,?_⟩
    ·rw[hf.out,bg.out]
    ·repeat apply Below.drew
     exact((Below.refl _ _).alloc (Qc _) _).alloc (by simp) _
   ·have hf:Hid (S.zcj 126 (S.cnt 126 (126::t)) info.data.toList=false):=hid (by rw[hfx.out,decide_eq_false h3]);go_wp2;refine bodyPost_ret (v:=.tuple #[.agg #[.int .u8 126,.int .i64 (S.cnt 126 r.data.toList:Nat),.int .i64 (S.indent s.data.toList:Nat),.string info],.bool false]) (by simp[results,results117,go_sem]) rfl ⟨info,?_,hI,dh,?_⟩
    ·rw[hf.out,bg.out]
    ·repeat apply Below.drew
     exact((Below.refl _ _).alloc (Qc _) _).alloc (by simp) _
theorem zle (s:ByteArray)(w:World)(hs:s.size<=maxLen):Calls prog 117 #[.string s] w λe w'=>∃info:ByteArray,e=.returned (.tuple #[.agg #[.int .u8 ((S.fence s.data.toList).mark.toNat:Int),.int .i64 ((S.fence s.data.toList).width:Nat),.int .i64 ((S.fence s.data.toList).ind:Nat),.string info],.bool (S.fence s.data.toList).ok])/\Hid (info.data.toList=(S.fence s.data.toList).info)/\info.size<=s.size/\Below w.heap.size w w':=by
 cases h:S.shallow s.data.toList with
 | nil=>
  refine(znt s w hs (by intro c t hc;rw[h] at hc;cases hc)).mono ?_;rintro e w'⟨rfl,hb⟩;rw[S.zlc _ h];exact⟨⟨#[]⟩,rfl,hid rfl,Qt _,hb⟩
 | cons c t=>
  by_cases h1:c=96
  ·subst h1;refine(zp7 s w hs t h).mono ?_;rintro e w'⟨info,rfl,hi,hl,hb⟩;rw[S.zj1 _ _ _ h (.inl rfl)];exact⟨info,by rw[hi.out];rfl,hi,hl,hb⟩
  ·by_cases h2:c=126
   ·subst h2;refine(zpa s w hs t h).mono ?_;rintro e w'⟨info,rfl,hi,hl,hb⟩;rw[S.zj1 _ _ _ h (.inr rfl)];exact⟨info,by rw[hi.out];rfl,hi,hl,hb⟩
   ·refine(znt s w hs (by intro c' t' hc;rw[h] at hc;cases hc;exact⟨h1,h2⟩)).mono ?_;rintro e w'⟨rfl,hb⟩;rw[S.zpb _ _ _ h h1 h2];exact⟨⟨#[]⟩,rfl,hid rfl,Qt _,hb⟩
end Go.Proofs.YtlojgpkajkedeaaGreatDoor
