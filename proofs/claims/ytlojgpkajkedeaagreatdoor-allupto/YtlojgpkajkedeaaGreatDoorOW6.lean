import Derived.Test.YtlojgpkajkedeaaGreatDoorOW3
import Derived.Deep.RegionHeld3
import Derived.Deep.DeepCutAuto
set_option maxHeartbeats 0
set_option maxRecDepth 100000
namespace Go.Proofs.YtlojgpkajkedeaaGreatDoor
open Go.RowKit Go.Proofs.Tryz
theorem zfc (s:Sb)(c:UInt8)(w:Sw):Calls prog 175 #[s,.string ⟨#[c]⟩] w λe f=>∃g:Bool,e=.returned g/\U (decide (c∈s.data.toList)=g)/\f=w:=by
 refine(Tryz.strings_Contains_one s c w).mono ?_;rintro e f⟨rfl,rfl⟩;refine⟨_,rfl,V ?_,rfl⟩;have:=S.Xm s c;rw[SC,Sd,Sd];constructor
 ·intro d;have h:¬Lib.indexByte s c<0:=λa=>(this.1 a) d;omega
 intro d;exact Classical.not_not.1 (λa=>by have:=this.2 a;omega)
theorem P7 (s:Sb)(c:UInt8)(f:c.toNat<128)(w:Sw)(g:s.size<=maxLen):Calls prog 172 #[s,.string ⟨#[c]⟩] w λe d=>∃a:Sb,e=.returned a/\U (a.data.toList=Lib.trimB s c)/\a.size<=s.size/\(d=w\/d=w.drew):=by
 refine(Tryz.strings_Trim_one s c f w (by unfold maxLen at g;omega)).mono ?_;rintro e d⟨rfl,h⟩;exact⟨_,rfl,V (S.Tt _),by rw[S.Pk,<-S.lda];exact S.Ul _ _,h⟩
theorem zct (s:Sb)(w:Sw)(y:s.size<=maxLen)(t:List UInt8)(o:S.Aq s=96::t):Calls prog 117 #[s] w λe k=>∃info:Sb,e=.returned (.tuple #[.agg #[.int .u8 96,(S.cnt 96 (96::t):Nat),(S.Ap s:Nat),info],.bool (S.Hl 96 (S.cnt 96 (96::t)) info)])/\U (info.data.toList=Lib.trimB ((96::t).drop (S.cnt 96 (96::t))) 32)/\info.size<=s.size/\Below w w k:=by
 have g:=y;unfold maxLen at y;have M:S.Ap s<=s.size:=by have:=S.Jz s;rw[S.lda]at this;exact this
 go_enter func117,ntmps117;go_wp2_with fail
 refine(Lv _ _ g).mono ?_;rintro e k⟨a,rfl,D,C,rfl⟩;have d:a.data.toList=96::t:=by rw[D.q,o]
 have x:0<a.size:=by rw[<-S.lda,d];simp
 have N:=S.K9 a x;have j:a[0]=96:=by have:=S.Uu a x;rw[d]at this;simp at this;exact this.symm
 have K:((a[0].toNat:Int) != 96)=false:=by rw[j];rfl
 have L:S.cnt 96 a.data.toList<=a.size:=by have:=S.Gf 96 a.data.toList;rw[S.lda]at this;exact this
 have f:=V d;have P:(a[0].toNat:Int)=96:=by rw[j];rfl
 clear d j o;go_wp2;go_cut [5] (λG H=>G=.pointer (some (((w:Nat)+1) 0))/\H=((w.alloc (.cells #[.int .u8 0,O,O,()] 181)).alloc (.cells #[.int .u8 96,(S.cnt 96 a.data.toList:Nat),(S.Ap s:Nat),()] 181)).drew)
 case first=>
  go_region_held3 (λk=>True) (trivial) (first|(go_at_call 165;refine(Tf a 96 _ (Qj C g)).mono ?_;rintro e z⟨rfl,rfl⟩)|(go_at_call 112;refine(Kg s _ g).mono ?_;rintro e z⟨rfl,rfl⟩))
  all_goals (go_wp2_with fail;go_meet;exact⟨rfl,rfl⟩)
 case rest=>
  obtain⟨rfl,rfl⟩:=hcut;go_wp2_with fail
  refine(P7 _ 32 J _ (by rw[Sqc];exact Qj Z g)).mono ?_;rintro e Q⟨info,rfl,q,r,E⟩;have u:info.size<=s.size:=by rw[Sqc]at r;omega
  have m:U (info.data.toList=Lib.trimB ((96::t).drop (S.cnt 96 (96::t))) 32):=V (by rw[q.q,S.Iw,f.q]);clear r q;rcases E with rfl|rfl
  all_goals
   go_wp2_with (fail);refine(zfc _ 96 _).mono ?_;rintro e z⟨A,rfl,F,rfl⟩;have p:U (S.Hl 96 (S.cnt 96 (96::t)) info=(decide (3<=S.cnt 96 a.data.toList)&&!A)):=V (by unfold S.Hl;rw[F.q,f.q];rfl);cases A
   all_goals
    by_cases l:3<=S.cnt 96 a.data.toList
    ·have h:U (S.Hl 96 (S.cnt 96 (96::t)) info=_):=V (by rw[p.q,Sl l,Bool.true_and]);go_wp2;refine Sqk (v:=.tuple #[.agg #[.int .u8 96,(S.cnt 96 a.data.toList:Nat),(S.Ap s:Nat),info],.bool _]) (by simp[results,results117,go_sem];rfl) rfl ⟨info,?_,m,u,?_⟩;·rw[h.q,f.q];rfl
     repeat apply Below.drew
     exact(Sr.alloc (Qc _) _).alloc Y _
    have h:U (S.Hl 96 (S.cnt 96 (96::t)) info=false):=V (by rw[p.q,Si l,Bool.false_and]);go_wp2;refine Sqk (v:=.tuple #[.agg #[.int .u8 96,(S.cnt 96 a.data.toList:Nat),(S.Ap s:Nat),info],false]) (by simp[results,results117,go_sem]) rfl ⟨info,?_,m,u,?_⟩;·rw[h.q,f.q]
    repeat apply Below.drew
    exact(Sr.alloc (Qc _) _).alloc Y _
theorem zen (s:Sb)(w:Sw)(y:s.size<=maxLen)(t:List UInt8)(o:S.Aq s=126::t):Calls prog 117 #[s] w λe k=>∃info:Sb,e=.returned (.tuple #[.agg #[.int .u8 126,(S.cnt 126 (126::t):Nat),(S.Ap s:Nat),info],.bool (S.Hl 126 (S.cnt 126 (126::t)) info)])/\U (info.data.toList=Lib.trimB ((126::t).drop (S.cnt 126 (126::t))) 32)/\info.size<=s.size/\Below w w k:=by
 have h:=y;unfold maxLen at y;have L:S.Ap s<=s.size:=by have:=S.Jz s;rw[S.lda]at this;exact this
 go_enter func117,ntmps117;go_wp2_with fail
 refine(Lv _ _ h).mono ?_;rintro e k⟨a,rfl,A,z,rfl⟩;have f:a.data.toList=126::t:=by rw[A.q,o]
 have x:0<a.size:=by rw[<-S.lda,f];simp
 have M:=S.K9 a x;have d:a[0]=126:=by have:=S.Uu a x;rw[f]at this;simp at this;exact this.symm
 have G:((a[0].toNat:Int) != 96)=true:=by rw[d];rfl
 have H:((a[0].toNat:Int) != 126)=false:=by rw[d];rfl
 have K:S.cnt 126 a.data.toList<=a.size:=by have:=S.Gf 126 a.data.toList;rw[S.lda]at this;exact this
 have g:=V f;have N:(a[0].toNat:Int)=126:=by rw[d];rfl
 clear f d o;go_wp2;go_cut [5] (λD F=>D=.pointer (some (((w:Nat)+1) 0))/\F=((w.alloc (.cells #[.int .u8 0,O,O,()] 181)).alloc (.cells #[.int .u8 126,(S.cnt 126 a.data.toList:Nat),(S.Ap s:Nat),()] 181)).drew)
 case first=>
  go_region_held3 (λk=>True) (trivial) (first|(go_at_call 165;refine(Tf a 126 _ (Qj z h)).mono ?_;rintro e E⟨rfl,rfl⟩)|(go_at_call 112;refine(Kg s _ h).mono ?_;rintro e E⟨rfl,rfl⟩))
  all_goals (go_wp2_with fail;go_meet;exact⟨rfl,rfl⟩)
 case rest=>
  obtain⟨rfl,rfl⟩:=hcut;go_wp2_with fail
  refine(P7 _ 32 J _ (by rw[Sqc];exact Qj Z h)).mono ?_;rintro e P⟨info,rfl,q,r,C⟩;have u:info.size<=s.size:=by rw[Sqc]at r;omega
  have m:U (info.data.toList=Lib.trimB ((126::t).drop (S.cnt 126 (126::t))) 32):=V (by rw[q.q,S.Iw,g.q]);clear r q;rcases C with rfl|rfl
  all_goals
   have p:U (S.Hl 126 (S.cnt 126 (126::t)) info=decide (3<=S.cnt 126 a.data.toList)):=V (by unfold S.Hl;rw[g.q];simp);by_cases l:3<=S.cnt 126 a.data.toList
   ·have j:U (S.Hl 126 (S.cnt 126 (126::t)) info=true):=V (by rw[p.q,Sl l]);go_wp2;refine Sqk (v:=.tuple #[.agg #[.int .u8 126,(S.cnt 126 a.data.toList:Nat),(S.Ap s:Nat),info],true]) (by simp[results,results117,go_sem]) rfl ⟨info,?_,m,u,?_⟩;·rw[j.q,g.q]
    repeat apply Below.drew
    exact(Sr.alloc (Qc _) _).alloc Y _
   have j:U (S.Hl 126 (S.cnt 126 (126::t)) info=false):=V (by rw[p.q,Si l]);go_wp2;refine Sqk (v:=.tuple #[.agg #[.int .u8 126,(S.cnt 126 a.data.toList:Nat),(S.Ap s:Nat),info],false]) (by simp[results,results117,go_sem]) rfl ⟨info,?_,m,u,?_⟩;·rw[j.q,g.q]
   repeat apply Below.drew
   exact(Sr.alloc (Qc _) _).alloc Y _
theorem VD (s:Sb)(w:Sw)(j:s.size<=maxLen):Calls prog 117 #[s] w λe h=>∃info:Sb,e=.returned (.tuple #[.agg #[.int .u8 ((S.Bp s).mark.toNat:Int),((S.Bp s).width:Nat),((S.Bp s).ind:Nat),info],.bool (S.Bp s).ok])/\U (info.data.toList=(S.Bp s).info)/\info.size<=s.size/\Below w w h:=by
 cases a:S.Aq s.data.toList with
 |nil=>
  refine(NI s w j (by intro c o f;rw[a]at f;cases f)).mono ?_;rintro e h⟨rfl,d⟩;rw[S.Zd _ a];exact⟨⟨#[]⟩,rfl,V rfl,Qt _,d⟩
 |cons c o=>
  by_cases k:c=96
  ·subst k;refine(zct s w j o a).mono ?_;rintro e h⟨info,rfl,g,m,d⟩;rw[S.Xh _ _ _ a (.inl rfl)];exact⟨info,by rw[g.q];rfl,g,m,d⟩
  by_cases l:c=126
  ·subst l;refine(zen s w j o a).mono ?_;rintro e h⟨info,rfl,g,m,d⟩;rw[S.Xh _ _ _ a (.inr rfl)];exact⟨info,by rw[g.q];rfl,g,m,d⟩
  refine(NI s w j (by intro p q f;rw[a]at f;cases f;exact⟨k,l⟩)).mono ?_;rintro e h⟨rfl,d⟩;rw[S.FM _ _ _ a k l];exact⟨⟨#[]⟩,rfl,V rfl,Qt _,d⟩
