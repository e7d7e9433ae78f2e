import Derived.Test.YtlojgpkajkedeaaGreatDoorNStr
import Derived.Test.YtlojgpkajkedeaaGreatDoorNW14
set_option maxHeartbeats 16000000
set_option maxRecDepth 100000
namespace Go.Proofs.YtlojgpkajkedeaaGreatDoor
open Go.RowKit Go.Proofs.Tryz
def zx7 (d:Nat):Prop:=∀(b o cap:Nat) (s0:ByteArray) (ts:List ByteArray) (w:World),ts.length+1<=cap->b<w.heap.size->RowS w b o (s0::ts)->Env w->bytes (dat (s0::ts))<=d->(S.item s0.data.toList).ok=true ->
 Calls prog 122 #[.slice (some ⟨b,o,none⟩) (ts.length+1) cap,.agg #[.int .u8 ((S.item s0.data.toList).kind.toNat:Int),.int .i64 (S.item s0.data.toList).number,.int .i64 ((S.item s0.data.toList).zaa:Nat),.bool (S.item s0.data.toList).empty]] w λe w'=>
  ∃kv,e=.returned (.tuple #[zdu (S.zbh (S.za2 d) (S.item s0.data.toList) (dat (s0::ts))).1 kv,.int .i64 ((S.zbh (S.za2 d) (S.item s0.data.toList) (dat (s0::ts))).2:Nat)])/\Rep w' (λx=>w.heap.size<=x/\x<w'.heap.size) kv (S.zbh (S.za2 d) (S.item s0.data.toList) (dat (s0::ts))).1.kids/\Below w.heap.size w w'
theorem zg7 (l:List UInt8)(h:S.zat l=true):(S.zcv l).length<l.length:=by
 unfold S.zat Lib.hasPrefix at h;have h1:=S.zk9 l;have h2:=Lib.trimPrefix_le ((S.shallow l).drop 1) [32];unfold S.zcv;cases hs:S.shallow l with
 | nil=>rw[hs] at h;simp at h
 | cons c t=>rw[hs] at h1 h2;simp at h1 h2 ⊢;omega
theorem zn6 (l:List (List UInt8)):bytes (S.zae l)<=bytes l:=by
 induction l with
 | nil=>simp[S.zae]
 | cons x r ih=>
  simp only[S.zae];split
  ·rename_i h;have:=zg7 x h;simp only[bytes,Qs,List.sum_cons] at *;omega
  ·simp[bytes]
theorem zmw (x:List UInt8)(r:List (List UInt8))(h:S.zat x=true):bytes (S.zae (x::r))<bytes (x::r):=by
 have h1:=zg7 x h;have h2:=zn6 r;simp only[S.zae,if_pos h,bytes,Qs,List.sum_cons] at *;omega
theorem zok (d:Nat)(hR:zpq d)(hL:zx7 d)(b o cap:Nat)(s0:ByteArray)(ts:List ByteArray)(w:World)(hcap:ts.length+1<=cap)(hbw:b<w.heap.size)(hrow:RowS w b o (s0::ts))(henv:Env w)(hd:bytes (dat (s0::ts))<=d):Calls prog 85 #[.slice (some ⟨b,o,none⟩) (ts.length+1) cap] w λe w'=>
   ∃kv,e=.returned (.tuple #[zdu (S.zaf (S.za2 d) (dat (s0::ts))).1 kv,.int .i64 ((S.zaf (S.za2 d) (dat (s0::ts))).2:Nat)])/\Rep w' (λx=>w.heap.size<=x/\x<w'.heap.size) kv (S.zaf (S.za2 d) (dat (s0::ts))).1.kids/\Below w.heap.size w w':=by
 have htot:=hrow.2;have hlen:=hrow.len;simp only[Qd] at hlen;have hs0:(s0::ts)[0]?=some s0:=rfl;have qj:s0.size<=140737488355328:=by have:=zdg _ _ s0 hs0;omega
 have hs6:s0.size<=1000000:=by have:=zdg _ _ s0 hs0;omega
 have hsm:s0.size<=maxLen:=by unfold maxLen;omega
 obtain⟨WA,pz⟩:=Qzz (w.alloc (.cells #[.int .i64 0,.int .i64 0,.slice none 0 0,.int .i64 0,.string ⟨#[]⟩,.string ⟨#[]⟩,.bool false,.slice none 0 0] 110));have hsA:WA.heap.size=w.heap.size+1:=by rw[pz];simp
 have qp:Below w.heap.size w WA:=by rw[pz];exact(Below.refl _ w).alloc (Qc _) _
 have hx0:WA.heap[w.heap.size]?=some (.cells #[.int .i64 0,.int .i64 0,.slice none 0 0,.int .i64 0,.string ⟨#[]⟩,.string ⟨#[]⟩,.bool false,.slice none 0 0] 110):=by rw[pz];exact za1 _ _
 have fq:=hid (hrow.below qp hbw);have gy:=hid (henv.below qp);have hcell:(w.alloc (.cells #[.int .i64 0,.int .i64 0,.slice none 0 0,.int .i64 0,.string ⟨#[]⟩,.string ⟨#[]⟩,.bool false,.slice none 0 0] 110)).cell? ⟨b,o,none⟩=some (.string s0):=by rw[<-pz];exact fq.out.1 0 s0 hs0
 have gq:b<WA.heap.size:=by omega
 have jg:=hid pz;have tq:=hid hsA;have qz:=hid hx0
 have fin:∀(w2:World) (B:S.Blk) (ka:Option Addr) (kn kc:Nat),Below WA.heap.size WA w2->Rep w2 (λx=>WA.heap.size<=x/\x<w2.heap.size) (.slice ka kn kc) B.kids ->
   (w2.cell? ⟨w.heap.size,0,none⟩=some (.int .i64 0)/\w2.cell? ⟨w.heap.size,1,none⟩=some (.int .i64 0)/\w2.cell? ⟨w.heap.size,2,none⟩=some (.slice none 0 0)/\w2.cell? ⟨w.heap.size,3,none⟩=some (.int .i64 0)/\w2.cell? ⟨w.heap.size,4,none⟩=some (.string ⟨#[]⟩)/\w2.cell? ⟨w.heap.size,5,none⟩=some (.string ⟨#[]⟩)/\w2.cell? ⟨w.heap.size,6,none⟩=some (.bool false)/\w2.cell? ⟨w.heap.size,7,none⟩=some (.slice none 0 0)/\(∀i,w2.frozen? ⟨w.heap.size,i,none⟩=false)) /\
   (∀v0 v1 v2 v3 v4 v5 v6 v7,Rep ((((((((w2.setCell ⟨w.heap.size,0,none⟩ v0).setCell ⟨w.heap.size,1,none⟩ v1).setCell ⟨w.heap.size,2,none⟩ v2).setCell ⟨w.heap.size,3,none⟩ v3).setCell ⟨w.heap.size,4,none⟩ v4).setCell ⟨w.heap.size,5,none⟩ v5).setCell ⟨w.heap.size,6,none⟩ v6).setCell ⟨w.heap.size,7,none⟩ v7) (λx=>w.heap.size<=x/\x<((((((((w2.setCell ⟨w.heap.size,0,none⟩ v0).setCell ⟨w.heap.size,1,none⟩ v1).setCell ⟨w.heap.size,2,none⟩ v2).setCell ⟨w.heap.size,3,none⟩ v3).setCell ⟨w.heap.size,4,none⟩ v4).setCell ⟨w.heap.size,5,none⟩ v5).setCell ⟨w.heap.size,6,none⟩ v6).setCell ⟨w.heap.size,7,none⟩ v7).heap.size) (.slice ka kn kc) B.kids/\Below w.heap.size w ((((((((w2.setCell ⟨w.heap.size,0,none⟩ v0).setCell ⟨w.heap.size,1,none⟩ v1).setCell ⟨w.heap.size,2,none⟩ v2).setCell ⟨w.heap.size,3,none⟩ v3).setCell ⟨w.heap.size,4,none⟩ v4).setCell ⟨w.heap.size,5,none⟩ v5).setCell ⟨w.heap.size,6,none⟩ v6).setCell ⟨w.heap.size,7,none⟩ v7)):=by
  intro w2 B ka kn kc hb2 hrep;have hk1:=hb2.block w.heap.size (by omega);rw[hx0] at hk1;refine⟨⟨za0 hk1 0 _ rfl,za0 hk1 1 _ rfl,za0 hk1 2 _ rfl,za0 hk1 3 _ rfl,za0 hk1 4 _ rfl,za0 hk1 5 _ rfl,za0 hk1 6 _ rfl,za0 hk1 7 _ rfl,za7 hk1⟩,λv0 v1 v2 v3 v4 v5 v6 v7=>⟨?_,?_⟩⟩
  ·exact hrep.move (λx hx=>⟨by omega,by rw[zl6];exact hx.2⟩) (λx hx=>ziz _ _ _ _ _ _ _ _ x (by omega))
  ·repeat (refine Below.setCell ?_ (by simp) _)
   exact qp.trans (hb2.mono (by omega))
 have jh:=hid fin;have qb:Hid (S.zaf (S.za2 d) (dat (s0::ts))=(if 4<=S.indent s0.data.toList then S.zb9 (dat (s0::ts))
  else if S.zbz s0.data.toList=true then (.mk 4 0 [] [] false [],1)
  else if 0<S.zaq s0.data.toList then (.mk 2 (S.zaq s0.data.toList) [] (S.zal s0.data.toList) false [],1)
  else if (S.fence s0.data.toList).ok=true then S.zbu (S.fence s0.data.toList) (dat (s0::ts))
  else if S.zat s0.data.toList=true then (.mk 5 0 [] [] false (S.za2 d (S.zae (dat (s0::ts)))).1,(S.zae (dat (s0::ts))).length)
  else if (S.item s0.data.toList).ok=true then S.zbh (S.za2 d) (S.item s0.data.toList) (dat (s0::ts))
  else S.za8 (dat (s0::ts)))):=hid rfl
 obtain⟨ind,lg⟩:∃x,S.indent s0.data.toList=x:=⟨_,rfl⟩;obtain⟨lv,hlv⟩:∃x,S.zaq s0.data.toList=x:=⟨_,rfl⟩;have hIn:Hid (∀wx,Calls prog 112 #[.string s0] wx λe w'=>e=.returned (.int .i64 (ind:Nat))/\wx=w'):=hid (λwx=>(zba s0 wx hsm).mono (λe w' ⟨h1,h2⟩=>⟨by rw[h1,lg],h2.symm⟩));have mh:Hid (∀wx,Calls prog 115 #[.string s0] wx λe w'=>e=.returned (.int .i64 (lv:Nat))/\wx=w'):=hid (λwx=>(zeg s0 wx hsm).mono (λe w' ⟨h1,h2⟩=>⟨by rw[h1,hlv],h2.symm⟩));have qx:ind<=s0.size:=by rw[<-lg,<-S.lda];exact S.zby _
 rw[lg,hlv] at qb;clear fin hsA hx0 pz;by_cases h4:4<=ind
 ·have hres:Hid (S.zaf (S.za2 d) (dat (s0::ts))=S.zb9 (dat (s0::ts))):=hid (by rw[qb.out,if_pos h4]);have wm:=hid (zkv b o cap (s0::ts) WA (by simp) (by simpa using hcap) gq fq.out);go_enter func85,ntmps85;go_wp2_with (first|(go_at_call 112;refine(hIn.out _).mono ?_;rintro e w'⟨rfl,rfl⟩)|(go_at_call 114;refine(kg.out _).mono ?_;rintro e w'⟨rfl,rfl⟩)|(go_at_call 115;refine(mh.out _).mono ?_;rintro e w'⟨rfl,rfl⟩))
  rw[<-jg.out];refine wm.out.mono ?_;rintro e w2⟨rfl,hb2⟩;obtain⟨⟨d0,d1,d2,d3,d4,d5,d6,d7,g0⟩,hfin⟩:=jh.out w2 (S.zb9 (dat (s0::ts))).1 none 0 0 hb2 .nil;have bg:=hid hfin;clear hfin hb2;simp only[zdu];go_wp2;refine bodyPost_ret (v:=.tuple #[zdu (S.zb9 (dat (s0::ts))).1 (.slice none 0 0),.int .i64 ((S.zb9 (dat (s0::ts))).2:Nat)]) (by simp[results,results85,go_sem,d0,d1,d2,d3,d4,d5,d6,d7,zdu]) rfl ⟨(.slice none 0 0),?_,?_,?_⟩
  ·rw[hres.out]
  ·rw[hres.out];exact(bg.out _ _ _ _ _ _ _ _).1
  ·exact(bg.out _ _ _ _ _ _ _ _).2
 cases hru:S.zbz s0.data.toList
 case true=>
  have kg:Hid (∀wx,Calls prog 114 #[.string s0] wx λe w'=>e=.returned (.bool true)/\wx=w'):=hid (λwx=>(zdv s0 wx hsm).mono (λe w' ⟨h1,h2⟩=>⟨by rw[h1,hru],h2.symm⟩));have hres:Hid (S.zaf (S.za2 d) (dat (s0::ts))=(.mk 4 0 [] [] false [],1)):=hid (by rw[qb.out,if_neg h4,if_pos hru]);obtain⟨⟨d0,d1,d2,d3,d4,d5,d6,d7,g0⟩,hfin⟩:=jh.out WA (.mk 4 0 [] [] false []) none 0 0 (Below.refl _ _) .nil;have bg:=hid hfin;clear hfin;rw[jg.out] at d0 d1 d2 d3 d4 d5 d6 d7 g0;go_enter func85,ntmps85;go_wp2_with (first|(go_at_call 112;refine(hIn.out _).mono ?_;rintro e w'⟨rfl,rfl⟩)|(go_at_call 114;refine(kg.out _).mono ?_;rintro e w'⟨rfl,rfl⟩)|(go_at_call 115;refine(mh.out _).mono ?_;rintro e w'⟨rfl,rfl⟩))
  exact bodyPost_ret (v:=.tuple #[.agg #[.int .i64 4,.int .i64 0,.slice none 0 0,.int .i64 0,.string ⟨#[]⟩,.string ⟨#[]⟩,.bool false,.slice none 0 0],.int .i64 1]) (by simp[results,results85,go_sem]) rfl ⟨.slice none 0 0,by rw[hres.out];rfl,by rw[hres.out];exact .nil,(Below.refl _ _).alloc (Qc _) _⟩
 case false=>
 have kg:Hid (∀wx,Calls prog 114 #[.string s0] wx λe w'=>e=.returned (.bool false)/\wx=w'):=hid (λwx=>(zdv s0 wx hsm).mono (λe w' ⟨h1,h2⟩=>⟨by rw[h1,hru],h2.symm⟩));have ny:Hid (_=_):=hid (qb.out.trans (by rw[if_neg h4,if_neg (by rw[hru];simp)]));clear qb;by_cases hl0:0<lv
 ·have hres:Hid (S.zaf (S.za2 d) (dat (s0::ts))=(.mk 2 (lv:Int) [] (S.zal s0.data.toList) false [],1)):=hid (by rw[ny.out,if_pos hl0]);have vg:=hid (zko s0 WA hsm);go_enter func85,ntmps85;go_wp2_with (first|(go_at_call 112;refine(hIn.out _).mono ?_;rintro e w'⟨rfl,rfl⟩)|(go_at_call 114;refine(kg.out _).mono ?_;rintro e w'⟨rfl,rfl⟩)|(go_at_call 115;refine(mh.out _).mono ?_;rintro e w'⟨rfl,rfl⟩))
  rw[<-jg.out];refine vg.out.mono ?_;rintro e w2⟨r,rfl,hr,hrl,hb2⟩;obtain⟨⟨d0,d1,d2,d3,d4,d5,d6,d7,g0⟩,hfin⟩:=jh.out w2 (.mk 2 (lv:Int) [] (S.zal s0.data.toList) false []) none 0 0 hb2 .nil;have bg:=hid hfin;have qm:Hid (Value.string r=.string (S.B (S.zal s0.data.toList))):=hid (by rw[<-hr.out,S.zbp]);clear hfin hb2;go_wp2;refine bodyPost_ret (v:=.tuple #[.agg #[.int .i64 2,.int .i64 0,.slice none 0 0,.int .i64 (lv:Nat),.string ⟨#[]⟩,.string r,.bool false,.slice none 0 0],.int .i64 1]) (by simp[results,results85,go_sem,d0,d1,d2,d3,d4,d5,d6,d7]) rfl ⟨.slice none 0 0,?_,?_,?_⟩
  ·rw[hres.out,qm.out];rfl
  ·rw[hres.out];exact(bg.out _ _ _ _ _ _ _ _).1
  ·exact(bg.out _ _ _ _ _ _ _ _).2
 have jw:Hid (_=_):=hid (ny.out.trans (by rw[if_neg hl0]));clear ny;obtain⟨F,hF⟩:=Qyy (S.fence s0.data.toList);have pq:=hid (zle s0 WA hsm);rw[hF] at pq jw;have vk:F.ind<=1000000:=by rw[<-hF];unfold S.fence;split<;>(try split)<;>(try simp)<;>omega
 clear hF;cases hok:F.ok
 case true=>
  have hres:Hid (S.zaf (S.za2 d) (dat (s0::ts))=S.zbu F (dat (s0::ts))):=hid (by rw[jw.out,if_pos hok]);rw[hok] at pq;go_enter func85,ntmps85;go_wp2_with (first|(go_at_call 112;refine(hIn.out _).mono ?_;rintro e w'⟨rfl,rfl⟩)|(go_at_call 114;refine(kg.out _).mono ?_;rintro e w'⟨rfl,rfl⟩)|(go_at_call 115;refine(mh.out _).mono ?_;rintro e w'⟨rfl,rfl⟩))
  rw[<-jg.out];refine pq.out.mono ?_;rintro e w1⟨info,rfl,hi,hil,hb1⟩;have dx:=hb1.alloc hb1.size (.cells #[.int .u8 (F.mark.toNat:Int),.int .i64 (F.width:Nat),.int .i64 (F.ind:Nat),.string info] 181);have xg:=hid (zn5 b o cap s0 ts F.mark F.width F.ind info (w1.alloc (.cells #[.int .u8 (F.mark.toNat:Int),.int .i64 (F.width:Nat),.int .i64 (F.ind:Nat),.string info] 181)) (Qh gq dx.size) (fq.out.below dx gq) vk);have jd:=hid dx;have dw:WA.heap.size<=(w1.alloc (.cells #[.int .u8 (F.mark.toNat:Int),.int .i64 (F.width:Nat),.int .i64 (F.ind:Nat),.string info] 181)).heap.size:=dx.size;have dh:=hid dw;clear hb1 dx dw;go_wp2_with fail
  refine xg.out.mono ?_;rintro e w2⟨rfl,hb2⟩;obtain⟨⟨d0,d1,d2,d3,d4,d5,d6,d7,g0⟩,hfin⟩:=jh.out w2 (S.zbu F (dat (s0::ts))).1 none 0 0 (jd.out.trans (hb2.mono dh.out)) .nil;have bg:=hid hfin;have qm:Hid (Value.string info=.string (S.B F.info)):=hid (by rw[<-hi.out,S.zbp]);clear hfin hb2;go_wp2;refine bodyPost_ret (v:=.tuple #[.agg #[.int .i64 3,.int .i64 0,.slice none 0 0,.int .i64 0,.string info,.string (S.B (S.zam F.ind ((dat ts).take (S.zb2 F.mark F.width (dat ts))))),.bool false,.slice none 0 0],.int .i64 ((min (S.zb2 F.mark F.width (dat ts)+1+1) (ts.length+1):Nat):Int)]) (by simp[results,results85,go_sem,d0,d1,d2,d3,d4,d5,d6,d7]) rfl ⟨.slice none 0 0,?_,?_,?_⟩
  ·rw[hres.out,qm.out];unfold S.zbu;rw[zai];rfl
  ·rw[hres.out];exact(bg.out _ _ _ _ _ _ _ _).1
  ·exact(bg.out _ _ _ _ _ _ _ _).2
 case false=>
 have ng:Hid (_=_):=hid (jw.out.trans (by rw[if_neg (by rw[hok];simp)]));rw[hok] at pq;clear jw hok;cases hqu:S.zat s0.data.toList
 case true=>
  have qh:Hid (∀wx,Calls prog 119 #[.string s0] wx λe w'=>e=.returned (.bool true)/\wx=w'):=hid (λwx=>(zds s0 wx hsm).mono (λe w' ⟨h1,h2⟩=>⟨by rw[h1,hqu],h2.symm⟩));have hres:Hid (S.zaf (S.za2 d) (dat (s0::ts))=(.mk 5 0 [] [] false (S.za2 d (S.zae (dat (s0::ts)))).1,(S.zae (dat (s0::ts))).length)):=hid (by rw[ng.out,if_pos hqu]);go_enter func85,ntmps85;go_wp2_with (first|(go_at_call 112;refine(hIn.out _).mono ?_;rintro e w'⟨rfl,rfl⟩)|(go_at_call 114;refine(kg.out _).mono ?_;rintro e w'⟨rfl,rfl⟩)|(go_at_call 115;refine(mh.out _).mono ?_;rintro e w'⟨rfl,rfl⟩))
  rw[<-jg.out];refine pq.out.mono ?_;rintro e w1⟨info,rfl,hi,hil,hb1⟩;have dx:=hb1.alloc hb1.size (.cells #[.int .u8 (F.mark.toNat:Int),.int .i64 (F.width:Nat),.int .i64 (F.ind:Nat),.string info] 181);have vv:=hid (zox d hR b o cap (s0::ts) (w1.alloc (.cells #[.int .u8 (F.mark.toNat:Int),.int .i64 (F.width:Nat),.int .i64 (F.ind:Nat),.string info] 181)) (Qh gq dx.size) (fq.out.below dx gq) (gy.out.below dx) (by rw[zd0];simp[hqu]) (Qh (zmw s0.data.toList (dat ts) hqu) hd));have jd:=hid dx;have dw:WA.heap.size<=(w1.alloc (.cells #[.int .u8 (F.mark.toNat:Int),.int .i64 (F.width:Nat),.int .i64 (F.ind:Nat),.string info] 181)).heap.size:=dx.size;have dh:=hid dw;clear hb1 dx dw;go_wp2_with (go_at_call 119;refine(qh.out _).mono ?_;rintro e w'⟨rfl,rfl⟩)
  refine vv.out.mono ?_;rintro e w2⟨kv,rfl,hrep,hb2⟩;obtain⟨ka,kn,kc,rfl⟩:=hrep.form;obtain⟨⟨d0,d1,d2,d3,d4,d5,d6,d7,g0⟩,hfin⟩:=jh.out w2 (.mk 5 0 [] [] false (S.za2 d (S.zae (dat (s0::ts)))).1) ka kn kc (jd.out.trans (hb2.mono dh.out)) (hrep.move (λx hx=>⟨Qj dh.out hx.1,hx.2⟩) (λ_ _=>rfl));have bg:=hid hfin;clear hfin hb2 hrep;simp only[zdu];go_wp2;refine bodyPost_ret (v:=.tuple #[zdu (.mk 5 0 [] [] false (S.za2 d (S.zae (dat (s0::ts)))).1) (.slice ka kn kc),.int .i64 ((S.zae (dat (s0::ts))).length:Nat)]) (by simp[results,results85,go_sem,d0,d1,d2,d3,d4,d5,d6,d7,zdu]) rfl ⟨.slice ka kn kc,?_,?_,?_⟩
  ·rw[hres.out]
  ·rw[hres.out];exact(bg.out _ _ _ _ _ _ _ _).1
  ·exact(bg.out _ _ _ _ _ _ _ _).2
 case false=>
 have qh:Hid (∀wx,Calls prog 119 #[.string s0] wx λe w'=>e=.returned (.bool false)/\wx=w'):=hid (λwx=>(zds s0 wx hsm).mono (λe w' ⟨h1,h2⟩=>⟨by rw[h1,hqu],h2.symm⟩));have mq:Hid (_=_):=hid (ng.out.trans (by rw[if_neg (by rw[hqu];simp)]));have qy:=hid (λwx h1 h2 h3 h4=>hL b o cap s0 ts wx hcap h1 h2 h3 hd h4);have qg:=hid (λwx he=>zjy s0 wx qj he);obtain⟨it,hit⟩:=Qyy (S.item s0.data.toList);rw[hit] at mq qy qg;clear ng hit hqu;cases hok:it.ok
 case true=>
  have hres:Hid (S.zaf (S.za2 d) (dat (s0::ts))=S.zbh (S.za2 d) it (dat (s0::ts))):=hid (by rw[mq.out,if_pos hok]);rw[hok] at qg;go_enter func85,ntmps85;go_wp2_with (first|(go_at_call 112;refine(hIn.out _).mono ?_;rintro e w'⟨rfl,rfl⟩)|(go_at_call 114;refine(kg.out _).mono ?_;rintro e w'⟨rfl,rfl⟩)|(go_at_call 115;refine(mh.out _).mono ?_;rintro e w'⟨rfl,rfl⟩))
  rw[<-jg.out];refine pq.out.mono ?_;rintro e w1⟨info,rfl,hi,hil,hb1⟩;have dx:=hb1.alloc hb1.size (.cells #[.int .u8 (F.mark.toNat:Int),.int .i64 (F.width:Nat),.int .i64 (F.ind:Nat),.string info] 181);have jq:=hid (gy.out.below dx);have jd:=hid dx;have dw:WA.heap.size<=(w1.alloc (.cells #[.int .u8 (F.mark.toNat:Int),.int .i64 (F.width:Nat),.int .i64 (F.ind:Nat),.string info] 181)).heap.size:=dx.size;have dh:=hid dw;clear hb1 dx dw;go_wp2_with (go_at_call 119;refine(qh.out _).mono ?_;rintro e w'⟨rfl,rfl⟩)
  refine(qg.out _ jq.out).mono ?_;rintro e w3⟨rfl,hb3⟩;have jl:=(jd.out.trans (hb3.mono dh.out)).alloc (Qj dh.out hb3.size) (.cells #[.int .u8 (it.kind.toNat:Int),.int .i64 it.number,.int .i64 (it.zaa:Nat),.bool it.empty] 186);have wh:=hid (qy.out (w3.alloc (.cells #[.int .u8 (it.kind.toNat:Int),.int .i64 it.number,.int .i64 (it.zaa:Nat),.bool it.empty] 186)) (Qh gq jl.size) (fq.out.below jl gq) (gy.out.below jl) hok);have lq:=hid jl;have jm:WA.heap.size<=(w3.alloc (.cells #[.int .u8 (it.kind.toNat:Int),.int .i64 it.number,.int .i64 (it.zaa:Nat),.bool it.empty] 186)).heap.size:=jl.size;have jk:=hid jm;clear hb3 jl jm;go_wp2_with fail
  refine wh.out.mono ?_;rintro e w2⟨kv,rfl,hrep,hb2⟩;obtain⟨ka,kn,kc,rfl⟩:=hrep.form;obtain⟨⟨d0,d1,d2,d3,d4,d5,d6,d7,g0⟩,hfin⟩:=jh.out w2 (S.zbh (S.za2 d) it (dat (s0::ts))).1 ka kn kc (lq.out.trans (hb2.mono jk.out)) (hrep.move (λx hx=>⟨Qj jk.out hx.1,hx.2⟩) (λ_ _=>rfl));have bg:=hid hfin;clear hfin hb2 hrep;simp only[zdu];go_wp2;refine bodyPost_ret (v:=.tuple #[zdu (S.zbh (S.za2 d) it (dat (s0::ts))).1 (.slice ka kn kc),.int .i64 ((S.zbh (S.za2 d) it (dat (s0::ts))).2:Nat)]) (by simp[results,results85,go_sem,d0,d1,d2,d3,d4,d5,d6,d7,zdu]) rfl ⟨.slice ka kn kc,?_,?_,?_⟩
  ·rw[hres.out]
  ·rw[hres.out];exact(bg.out _ _ _ _ _ _ _ _).1
  ·exact(bg.out _ _ _ _ _ _ _ _).2
 case false=>
  have hres:Hid (S.zaf (S.za2 d) (dat (s0::ts))=S.za8 (dat (s0::ts))):=hid (by rw[mq.out,if_neg (by rw[hok];simp)]);have jy:(S.za8 (dat (s0::ts))).1.kids=[]:=by
   unfold S.za8;simp only[];split
   ·rfl
   ·split<;>rfl
  rw[hok] at qg;go_enter func85,ntmps85;go_wp2_with (first|(go_at_call 112;refine(hIn.out _).mono ?_;rintro e w'⟨rfl,rfl⟩)|(go_at_call 114;refine(kg.out _).mono ?_;rintro e w'⟨rfl,rfl⟩)|(go_at_call 115;refine(mh.out _).mono ?_;rintro e w'⟨rfl,rfl⟩))
  rw[<-jg.out];refine pq.out.mono ?_;rintro e w1⟨info,rfl,hi,hil,hb1⟩;have dx:=hb1.alloc hb1.size (.cells #[.int .u8 (F.mark.toNat:Int),.int .i64 (F.width:Nat),.int .i64 (F.ind:Nat),.string info] 181);have jq:=hid (gy.out.below dx);have jd:=hid dx;have dw:WA.heap.size<=(w1.alloc (.cells #[.int .u8 (F.mark.toNat:Int),.int .i64 (F.width:Nat),.int .i64 (F.ind:Nat),.string info] 181)).heap.size:=dx.size;have dh:=hid dw;clear hb1 dx dw;go_wp2_with (go_at_call 119;refine(qh.out _).mono ?_;rintro e w'⟨rfl,rfl⟩)
  refine(qg.out _ jq.out).mono ?_;rintro e w3⟨rfl,hb3⟩;have jl:=(jd.out.trans (hb3.mono dh.out)).alloc (Qj dh.out hb3.size) (.cells #[.int .u8 (it.kind.toNat:Int),.int .i64 it.number,.int .i64 (it.zaa:Nat),.bool it.empty] 186);have vw:=hid (zjx b o cap s0 ts (w3.alloc (.cells #[.int .u8 (it.kind.toNat:Int),.int .i64 it.number,.int .i64 (it.zaa:Nat),.bool it.empty] 186)) hcap (Qh gq jl.size) (fq.out.below jl gq) (gy.out.below jl));have lq:=hid jl;have jm:WA.heap.size<=(w3.alloc (.cells #[.int .u8 (it.kind.toNat:Int),.int .i64 it.number,.int .i64 (it.zaa:Nat),.bool it.empty] 186)).heap.size:=jl.size;have jk:=hid jm;have kr:=hid jy;clear hb3 jl jm jy;go_wp2_with fail
  refine vw.out.mono ?_;rintro e w2⟨rfl,hb2⟩;obtain⟨⟨d0,d1,d2,d3,d4,d5,d6,d7,g0⟩,hfin⟩:=jh.out w2 (S.za8 (dat (s0::ts))).1 none 0 0 (lq.out.trans (hb2.mono jk.out)) (by rw[kr.out];exact .nil);have bg:=hid hfin;clear hfin hb2;simp only[zdu];go_wp2;refine bodyPost_ret (v:=.tuple #[zdu (S.za8 (dat (s0::ts))).1 (.slice none 0 0),.int .i64 ((S.za8 (dat (s0::ts))).2:Nat)]) (by simp[results,results85,go_sem,d0,d1,d2,d3,d4,d5,d6,d7,zdu]) rfl ⟨.slice none 0 0,?_,?_,?_⟩
  ·rw[hres.out]
  ·rw[hres.out];exact(bg.out _ _ _ _ _ _ _ _).1
  ·exact(bg.out _ _ _ _ _ _ _ _).2
theorem Tryz.zxg:(prog.info? 110).map (λi=>(i.zero,i.size,i.bytes))=some (some (.agg #[.int .i64 0,.int .i64 0,.slice none 0 0,.int .i64 0,.string ⟨#[]⟩,.string ⟨#[]⟩,.bool false,.slice none 0 0]),8,112):=by kernel_rfl
structure Ext where
 la:Option Addr
 ln:Nat
 lc:Nat
def six (p:S.Blk × Value × Ext):List Value:=[.int .i64 p.1.kind,.int .i64 p.1.line,.slice p.2.2.la p.2.2.ln p.2.2.lc,.int .i64 p.1.n,.string (S.B p.1.info),.string (S.B p.1.text),.bool p.1.loose,p.2.1]
def cellsOf (ps:List (S.Blk × Value × Ext)):List Value:=(ps.map six).flatten
theorem zgy (ps:List (S.Blk × Value × Ext))(p:S.Blk × Value × Ext):cellsOf (ps++[p])=cellsOf ps++six p:=by simp[cellsOf]
theorem zsb (ps:List (S.Blk × Value × Ext))(i j:Nat)(p:S.Blk × Value × Ext)(h:ps[i]?=some p)(hj:j<8):(cellsOf ps)[8*i+j]?=(six p)[j]?:=by
 induction ps generalizing i with
 | nil=>simp at h
 | cons q r ih=>
  have hl:(six q).length=8:=rfl;cases i with
  | zero=>
   simp at h;subst h;show (six q++cellsOf r)[8*0+j]?=_;rw[Qbd (by rw[hl];omega)];simp
  | succ i=>
   have:=ih i (by simpa using h);show (six q++cellsOf r)[8*(i+1)+j]?=_;rw[Qu (by rw[hl];omega),hl,<-this];congr 1;omega
theorem zmc {w:World}{B:Nat}{v:Value}{ps:List (S.Blk × Value × Ext)}{A:Nat->Prop}(h:w.ownsRow B 110 8 v ps.length (cellsOf ps))(hA:∀g,v.ownBlock=some g->A g)
  (hk:∀(i:Nat) (p:S.Blk × Value × Ext),ps[i]?=some p->Rep w A p.2.1 p.1.kids):Rep w A v (ps.map Prod.fst):=by
 rcases h.2 with ⟨h1,h2⟩|⟨g,cap,cur,h1,h2,h3,h4,h5,h6,h7⟩
 ·have:ps=[]:=List.eq_nil_of_length_eq_zero h2;subst this;rw[h1];exact .nil
 ·subst h1;have hc:∀i j p u,ps[i]?=some p->j<8->(six p)[j]?=some u->w.cell? ⟨g,0+8*i+j,none⟩=some u:=by
   intro i j p u hi hj hu;have hx:=zsb ps i j p hi hj;rw[hu] at hx;have:=h.cells (g:=g) rfl (8*i+j) u hx;have ha:(⟨g,0,none⟩:Addr).add (8*i+j)=⟨g,0+8*i+j,none⟩:=by
    simp only[Addr.add];split
    ·rename_i h;simp<;>omega
    ·simp<;>omega
   rw[<-ha];exact this
  have hlen:(ps.map Prod.fst).length=ps.length:=by simp
  rw[<-hlen];refine .some g 0 cap (ps.map Prod.fst) (λi=>(ps[i]?.map (λp=>p.2.1)).getD .nilIface) (hA g rfl) (by rw[hlen];exact h4) ?_ ?_
  ·intro i t hi;rw[List.getElem?_map] at hi;cases hp:ps[i]? with
   | none=>rw[hp] at hi;simp at hi
   | some p=>
    rw[hp] at hi;simp at hi;subst hi;refine⟨hc i 0 p _ hp (by omega) rfl,hc i 1 p _ hp (by omega) rfl,⟨p.2.2.la,p.2.2.ln,p.2.2.lc,hc i 2 p _ hp (by omega) rfl⟩,hc i 3 p _ hp (by omega) rfl,hc i 4 p _ hp (by omega) rfl,hc i 5 p _ hp (by omega) rfl,hc i 6 p _ hp (by omega) rfl,?_⟩;exact hc i 7 p _ hp (by omega) rfl
  ·intro i t hi;rw[List.getElem?_map] at hi;cases hp:ps[i]? with
   | none=>rw[hp] at hi;simp at hi
   | some p=>
    rw[hp] at hi;simp at hi;subst hi;have:=hk i p hp;simpa using this
theorem zhh (l:List (List UInt8))(k:Nat):bytes (l.drop k)<=bytes l:=by
 induction l generalizing k with
 | nil=>simp
 | cons x r ih=>cases k with
  | zero=>simp
  | succ k=>have:=ih k;simp only[List.drop_succ_cons];simp only[bytes,Qs,List.sum_cons] at *;omega
structure zul (d:Nat)(w:World)(ss:List ByteArray)(k f:Nat)(ps:List (S.Blk × Value × Ext))(v:Value)(pb:Bool)(wr:World):Prop where
 spec:S.za2 (d+1) (dat ss)=(ps.map Prod.fst++(S.rowFrom (S.za2 d) ss.length f ((dat ss).drop k)).1,pb||(S.rowFrom (S.za2 d) ss.length f ((dat ss).drop k)).2)
 fuel:ss.length-k<=f
 own:wr.ownsRow w.heap.size 110 8 v ps.length (cellsOf ps)
 kids:∀(i:Nat) (p:S.Blk × Value × Ext),ps[i]?=some p->Rep wr (λx=>w.heap.size<=x/\x<wr.heap.size/\some x≠v.ownBlock) p.2.1 p.1.kids
 below:Below w.heap.size w wr
 count:ps.length<=k
theorem zul.step {d:Nat}{w wr w1 w2:World}{ss:List ByteArray}{k f g cap1:Nat}{ps:List (S.Blk × Value × Ext)}{v kv:Value}{pb:Bool}{B:S.Blk}{ln:Ext}{wX:World}
  (h:zul d w ss k f ps v pb wr) (hb1:Below wr.heap.size wr w1) (hrep:Rep w1 (λx=>wr.heap.size<=x/\x<w1.heap.size) kv B.kids)
  (hown3:w2.ownsRow w.heap.size 110 8 (.slice (some ⟨g,0,none⟩) (ps.length+1) cap1) (ps.length+1) (cellsOf ps++six (B,kv,ln))) (hbX:Below w1.heap.size w1 wX) (hsX:wX.heap.size=w1.heap.size+2) (hgrow:wX.grownBy w2 v.ownBlock)
  (hat:v.ownBlock=some g\/g=w1.heap.size+1+1) :
  (∀(i:Nat) (p:S.Blk × Value × Ext),(ps++[(B,kv,ln)])[i]?=some p->Rep w2 (λx=>w.heap.size<=x/\x<w2.heap.size/\some x≠some g) p.2.1 p.1.kids)/\w2.ownsRow w.heap.size 110 8 (.slice (some ⟨g,0,none⟩) (ps++[(B,kv,ln)]).length cap1) (ps++[(B,kv,ln)]).length (cellsOf (ps++[(B,kv,ln)]))/\Below w.heap.size w w2:=by
 have hlt:=h.own.lt;have hs0:=h.below.size;have hs1:=hb1.size;have hs2:=hgrow.size;have hsz:=hsX;have hblk:∀x,x<w1.heap.size->some x≠v.ownBlock->w2.heap[x]?=w1.heap[x]?:=by
  intro x hx hne;rw[hgrow.block x (by omega) hne,hbX.block x hx]
 refine⟨?_,?_,?_⟩
 ·intro i p hi;by_cases hil:i<ps.length
  ·rw[Qbd hil] at hi;refine(h.kids i p hi).move ?_ ?_
   ·intro x hx;refine⟨hx.1,by omega,?_⟩;rcases hat with hat|hat
    ·rw[<-hat];exact hx.2.2
    ·intro e;cases e;omega
   ·intro x hx;rw[hblk x (by omega) hx.2.2,hb1.block x hx.2.1]
  ·rw[Qu (by omega)] at hi;have hi0:i-ps.length=0:=by have:=(Qb.1 hi).1;simp at this;omega
   rw[hi0] at hi;simp at hi;subst hi;refine hrep.move ?_ ?_
   ·intro x hx;refine⟨by omega,by omega,?_⟩;intro e;rcases hat with hat|hat
    ·have:=hlt g hat;cases e;omega
    ·cases e;omega
   ·intro x hx;refine hblk x hx.2 (λe=>?_);have:=hlt x e.symm;omega
 ·rw[zgy,Qa];exact hown3
 ·refine Below.grown ((h.below.trans (hb1.mono hs0)).trans (hbX.mono (by omega))) hgrow (by omega) (λq hq=>(hlt q hq).1)
theorem zsx (d:Nat)(hR:zpq d)(hL:zx7 d):zpq (d+1):=by
 intro b o cap ss w hcap hbw hrow jq hd;have htot:=hrow.2;have hlen:=hrow.len;obtain⟨i0,hi,hz0,hz1,hz2⟩:=info_parts Tryz.zxg;have hbl:=S.zev (dat ss);rw[zai] at hbl;obtain⟨k0,hk0⟩:=Qyy (S.za6 (dat ss));have jy:Hid (Calls prog 84 #[.slice (some ⟨b,o,none⟩) ss.length cap] w λe w'=>e=.returned (.int .i64 (k0:Nat))/\w=w'):=hid ((zdk b o cap ss w (by omega) hrow.row).mono (λe w' ⟨h1,h2⟩=>⟨by rw[h1,hk0],h2.symm⟩));have hstart:Hid (zul d w ss k0 ss.length [] (.slice none 0 0) false w):=hid ⟨by rw[<-hk0];unfold S.za2;rw[zai];simp,by omega,World.ownsRow_nil _ _ _ _,by intro i p h;simp at h,Below.refl _ _,by simp⟩;rw[hk0] at hbl;have ng:=hid hR;have pq:=hid hL;clear hk0 hR hL;go_enter func64,ntmps64;go_wp2_with (go_at_call 84;refine jy.out.mono ?_;rintro e w'⟨rfl,rfl⟩)
 go_loopw [2,3,4,5,6,7] (λv p at' _ _ _ wr=>∃(k f:Nat) (ps:List (S.Blk × Value × Ext)) (a:Option Addr) (cp:Nat) (pb:Bool),k<=ss.length/\v=.slice a ps.length cp/\p=.bool pb/\at'=.int .i64 k/\zul d w ss k f ps v pb wr) (λ_ _ at' _ _ _ _=>ss.length-(intOf at').toNat)
 case atStart=>exact⟨k0,ss.length,[],none,0,false,hbl,rfl,rfl,rfl,hstart.out⟩
 case round=>
  obtain⟨k,f,ps,a,cp,pb,hk,rfl,rfl,rfl,hrel'⟩:=hrel;have bg:=hid hrel';have mq:w.heap.size<=wr.heap.size:=hrel'.below.size;clear hrel';by_cases hlt:k<ss.length
  ·obtain⟨s,ts,hdr⟩:∃s ts,ss.drop k=s::ts:=by
    cases h:ss.drop k with
    | nil=>have:=congrArg List.length h;rw[Qf] at this;simp at this;omega
    | cons s ts=>exact⟨s,ts,rfl⟩
   have hts:ss.length-k=ts.length+1:=by have:=congrArg List.length hdr;rw[Qf] at this;simpa using this
   have hkc:k<cap:=by omega
   obtain⟨B,hB⟩:=Qyy (S.zaf (S.za2 d) ((dat ss).drop k));have dw:(dat ss).drop k=dat (s::ts):=by rw[<-zj6,hdr]
   have hsz:=S.zfk (S.za2 d) s.data.toList (dat ts);have jl:1<=B.2/\B.2<=ss.length-k:=by
    rw[<-hB,dw,hts];have h2:=hsz.2;rw[Qd,zai] at h2;exact⟨hsz.1,h2⟩
   obtain⟨hsz1,hsz2⟩:=jl;have ny:Hid (Calls prog 85 #[.slice (some ⟨b,o+k,none⟩) (ss.length-k) (cap-k)] wr λe w'=>∃kv,e=.returned (.tuple #[zdu B.1 kv,.int .i64 (B.2:Nat)])/\Rep w' (λx=>wr.heap.size<=x/\x<w'.heap.size) kv B.1.kids/\Below wr.heap.size wr w'):=hid (by
    have hrd:=(hrow.below bg.out.below hbw).drop k;rw[hdr] at hrd;have:=zok d ng.out pq.out b (o+k) (cap-k) s ts wr (by omega) (by omega) hrd (jq.below bg.out.below) (by
     rw[<-dw];have:=zhh (dat ss) k;omega)
    rw[<-dw,hB,<-hts] at this;exact this)
   have lq:=hid hB;have jg:Hid ((dat ss).drop k≠[]):=hid (by rw[dw];simp[dat]);clear hts hdr dw hsz hB;go_wp2_with (fail);refine ny.out.mono ?_;rintro e w1⟨kv,rfl,hrep,hb1⟩;obtain⟨ka,kn,kc,rfl⟩:=hrep.form;have hown1:w1.ownsRow w.heap.size 110 8 (.slice a ps.length cp) ps.length (cellsOf ps):=bg.out.own.kept (Below.zfn hb1) (by
    cases h:(Value.slice a ps.length cp).ownBlock with
    | none=>exact .inl rfl
    | some g=>exact .inr (by simp))
   have hown2:Hid (∀wz o2,Below w1.heap.size w1 wz->(wz.alloc o2).ownsRow w.heap.size 110 8 (.slice a ps.length cp) ps.length (cellsOf ps)):=hid (λwz o2 hz=>(hown1.kept (Below.zfn hz) (by
    cases h:(Value.slice a ps.length cp).ownBlock with
    | none=>exact .inl rfl
    | some g=>exact .inr (by simp))).alloc o2)
   have hnew:Hid (∀(wz:World),wz.heap.size=w1.heap.size+1->∀j u,(six (B.1.put (k:Int),.slice ka kn kc,(⟨some ⟨b,o+k,none⟩,B.2,cap-k⟩:Ext)))[j]?=some u->(wz.alloc (.cells #[.int .i64 B.1.kind,.int .i64 (k:Int),.slice (some ⟨b,o+k,none⟩) B.2 (cap-k),.int .i64 B.1.n,.string (S.B B.1.info),.string (S.B B.1.text),.bool B.1.loose,.slice ka kn kc] 110)).cell? ((⟨w1.heap.size+1,0,none⟩:Addr).add j)=some u):=hid (by
    intro wz hsz j u hj;have ha:(⟨w1.heap.size+1,0,none⟩:Addr).add j=⟨wz.heap.size,j,none⟩:=by
     rw[hsz];simp only[Addr.add];split
     ·rename_i h;simp<;>omega
     ·simp<;>omega
    rw[ha];exact za0 (za1 _ _) j u (by rw[<-hj];simp[six,S.Blk.zv0,S.Blk.z1h,S.Blk.z5u,S.Blk.z09,S.Blk.z0q,S.Blk.zz4]))
   have hone:Hid (∀u∈six (B.1.put (k:Int),.slice ka kn kc,(⟨some ⟨b,o+k,none⟩,B.2,cap-k⟩:Ext)),u.oneCell'=true):=hid (by
    intro u hu;simp[six] at hu;rcases hu with rfl|rfl|rfl|rfl|rfl|rfl|rfl|rfl<;>rfl)
   have hcnt:=bg.out.count;have gy:=hid hrep;have jw:=hid hb1;have kr:wr.heap.size<=w1.heap.size:=hb1.size;clear hrep hb1 hown1;have hck:¬cap=k:=by omega
   have hJ0:(0:Int)<=(k:Int):=by omega
   have pz:(k:Int)<=(k:Int)+(B.2:Int):=by omega
   have hJ2:(k:Int)+(B.2:Int)<=(cap:Int):=by omega
   have hJ3:(0:Int)<=(k:Int)+(B.2:Int):=by omega
   have mh:IntKind.i64.wrap ((k:Int)+(B.2:Int))=(k:Int)+(B.2:Int):=by rw[IntKind.wrap_i64];omega
   have kg:((k:Int)+(B.2:Int)).toNat=k+B.2:=by omega
   have lg:k+B.2-k=B.2:=by omega
   simp only[zdu];go_wp2_with (fail);go_region
   go_wp2_with (at_builtin;refine wpList_append_lies _ (by rfl) _ _ 77 (by rfl) w.heap.size 110 i0 (.agg #[.int .i64 0,.int .i64 0,.slice none 0 0,.int .i64 0,.string ⟨#[]⟩,.string ⟨#[]⟩,.bool false,.slice none 0 0]) 8 112 underlying77 hi hz0 hz1 hz2 (by rfl) (by omega) (.slice a ps.length cp) ps.length (cellsOf ps) (by rfl) (hown2.out _ _ ((Below.refl _ w1).alloc (Qc _) _)) ⟨w1.heap.size+1,0,none⟩ 1 1 (six (B.1.put (k:Int),.slice ka kn kc,(⟨some ⟨b,o+k,none⟩,B.2,cap-k⟩:Ext))) (by rfl) (by rfl) (hnew.out _ (by simp)) hone.out (by omega) (by unfold maxLen;omega) (by omega) (by simp;omega) (w1.heap.size+1+1) (by simp) ?_)
   intro g dx w2 hown3 hgrow hat jm;have dh:=hid (bg.out.step jw.out (B:=B.1.put (k:Int)) (by rw[S.Blk.zzp];exact gy.out) hown3 ((((Below.refl _ w1).alloc (Qc _) _).alloc (by simp) _).drew) (by simp) hgrow hat);have gq:Below w.heap.size w w2:=dh.out.2.2;have hrow2:=hid (hrow.below gq hbw);clear hown3 hgrow hat jm gq;by_cases hkc2:k+B.2<cap
   ·skip
    have hG:S.za6 (dat (ss.drop (k+B.2)))<=ss.length-(k+B.2):=(by have:=S.zev (dat (ss.drop (k+B.2)));rw[zai,Qf] at this;exact this);obtain⟨gp,jk⟩:=Qyy (S.za6 (dat (ss.drop (k+B.2))));have jh:Hid (Calls prog 84 #[.slice (some ⟨b,o+(k+B.2),none⟩) (ss.length-(k+B.2)) (cap-(k+B.2))] w2 λe w'=>e=.returned (.int .i64 (gp:Nat))/\w2=w'):=hid (by
     have hrd:=hrow2.out.drop (k+B.2);have:=zdk b (o+(k+B.2)) (cap-(k+B.2)) (ss.drop (k+B.2)) w2 (by rw[Qf];omega) hrd.row;rw[Qf,jk] at this;exact this.mono (λe w' ⟨h1,h2⟩=>⟨h1,h2.symm⟩))
    rw[jk] at hG;have hstep:Hid (S.za2 (d+1) (dat ss)=((ps++[(B.1.put (k:Int),Value.slice ka kn kc,(⟨some ⟨b,o+k,none⟩,B.2,cap-k⟩:Ext))]).map Prod.fst++(S.rowFrom (S.za2 d) ss.length (f-1) ((dat ss).drop (k+B.2+gp))).1,(if 0<gp/\k+B.2+gp<ss.length then true else pb)||(S.rowFrom (S.za2 d) ss.length (f-1) ((dat ss).drop (k+B.2+gp))).2)):=hid (by
     rw[bg.out.spec];obtain⟨f',hf'⟩:∃f',f=f' + 1:=⟨f-1,by have:=bg.out.fuel;omega⟩;have e1:((dat ss).drop k).drop B.2=dat (ss.drop (k+B.2)):=(by rw[Qbb,zj6]);have e2:((dat ss).drop k).drop (B.2+gp)=(dat ss).drop (k+B.2+gp):=(by rw[Qbb];congr 1;omega);have hln:((ss.length-((dat ss).drop k).length:Nat):Int)=(k:Int):=(by rw[Qf,zai];omega);rw[hf',S.zek _ _ _ _ jg.out,lq.out,hln,e1,jk,e2,Nat.add_sub_cancel];have e3:((dat ss).drop (k+B.2+gp)).isEmpty=decide (¬k+B.2+gp<ss.length):=by
      rw[Bool.eq_iff_iff,List.isEmpty_iff,List.drop_eq_nil_iff,zai,decide_eq_true_iff];omega
     rw[e3];by_cases hc:0<gp/\k+B.2+gp<ss.length
     ·rw[if_pos hc,decide_eq_true hc.1,decide_eq_false (not_not_intro hc.2)];simp
     ·rw[if_neg hc];have:(decide (0<gp)&&!decide (¬k+B.2+gp<ss.length))=false:=by
       rw[Bool.and_eq_false_iff];by_cases h0:0<gp
       ·exact .inr (by have:¬k+B.2+gp<ss.length:=λh=>hc ⟨h0,h⟩;simp[this])
       ·exact .inl (decide_eq_false h0)
      rw[this];simp)
    clear jk;by_cases hg0:0<gp
    ·by_cases hkk:k+B.2+gp<ss.length
     ·rw[if_pos ⟨hg0,hkk⟩] at hstep;go_wp2_with (go_at_call 84;refine jh.out.mono ?_;rintro e w'⟨rfl,rfl⟩)
      go_roundw
      case rel=>
       refine⟨k+B.2+gp,f-1,ps++[(B.1.put (k:Int),Value.slice ka kn kc,(⟨some ⟨b,o+k,none⟩,B.2,cap-k⟩:Ext))],some ⟨g,0,none⟩,dx,_,by omega,by rw[Qa];rfl,rfl,by go_num,?_⟩;have hst:=dh.out;have e:(ps++[(B.1.put (k:Int),Value.slice ka kn kc,(⟨some ⟨b,o+k,none⟩,B.2,cap-k⟩:Ext))]).length=ps.length+1:=(by simp);have h1:=hst.2.1;refine⟨hstep.out,by have:=bg.out.fuel;omega,?_,hst.1,hst.2.2,by rw[e];omega⟩;rw[e] at h1 ⊢;exact h1
      case measure=>simp[intOf];omega
     ·rw[if_neg (λh=>hkk h.2)] at hstep;go_wp2_with (go_at_call 84;refine jh.out.mono ?_;rintro e w'⟨rfl,rfl⟩)
      go_roundw
      case rel=>
       refine⟨k+B.2+gp,f-1,ps++[(B.1.put (k:Int),Value.slice ka kn kc,(⟨some ⟨b,o+k,none⟩,B.2,cap-k⟩:Ext))],some ⟨g,0,none⟩,dx,_,by omega,by rw[Qa];rfl,rfl,by go_num,?_⟩;have hst:=dh.out;have e:(ps++[(B.1.put (k:Int),Value.slice ka kn kc,(⟨some ⟨b,o+k,none⟩,B.2,cap-k⟩:Ext))]).length=ps.length+1:=(by simp);have h1:=hst.2.1;refine⟨hstep.out,by have:=bg.out.fuel;omega,?_,hst.1,hst.2.2,by rw[e];omega⟩;rw[e] at h1 ⊢;exact h1
      case measure=>simp[intOf];omega
    ·rw[if_neg (λh=>hg0 h.1)] at hstep;go_wp2_with (go_at_call 84;refine jh.out.mono ?_;rintro e w'⟨rfl,rfl⟩)
     go_roundw
     case rel=>
      refine⟨k+B.2+gp,f-1,ps++[(B.1.put (k:Int),Value.slice ka kn kc,(⟨some ⟨b,o+k,none⟩,B.2,cap-k⟩:Ext))],some ⟨g,0,none⟩,dx,_,by omega,by rw[Qa];rfl,rfl,by go_num,?_⟩;have hst:=dh.out;have e:(ps++[(B.1.put (k:Int),Value.slice ka kn kc,(⟨some ⟨b,o+k,none⟩,B.2,cap-k⟩:Ext))]).length=ps.length+1:=(by simp);have h1:=hst.2.1;refine⟨hstep.out,by have:=bg.out.fuel;omega,?_,hst.1,hst.2.2,by rw[e];omega⟩;rw[e] at h1 ⊢;exact h1
     case measure=>simp[intOf];omega
   ·have hle1:ss.length<=k+B.2:=(by omega);have hle3:k+B.2<=ss.length:=(by omega);obtain rfl:cap=k+B.2:=by omega
    have jh:Hid (Calls prog 84 #[.slice (some ⟨b,o,none⟩) 0 0] w2 λe w'=>e=.returned (.int .i64 0)/\w2=w'):=hid (by
     have:=zdk b o 0 [] w2 (by simp) (λi s h=>by simp at h);exact this.mono (λe w' ⟨h1,h2⟩=>⟨h1,h2.symm⟩))
    have hstep:Hid (S.za2 (d+1) (dat ss)=((ps++[(B.1.put (k:Int),Value.slice ka kn kc,(⟨some ⟨b,o+k,none⟩,B.2,k+B.2-k⟩:Ext))]).map Prod.fst++(S.rowFrom (S.za2 d) ss.length (f-1) ((dat ss).drop (k+B.2))).1,pb||(S.rowFrom (S.za2 d) ss.length (f-1) ((dat ss).drop (k+B.2))).2)):=hid (by
     rw[bg.out.spec];obtain⟨f',hf'⟩:∃f',f=f' + 1:=⟨f-1,by have:=bg.out.fuel;omega⟩;have e1:((dat ss).drop k).drop B.2=[]:=(by rw[Qbb];exact Qw (by rw[zai];omega));have e2:(dat ss).drop (k+B.2)=[]:=Qw (by rw[zai];omega);have hln:((ss.length-((dat ss).drop k).length:Nat):Int)=(k:Int):=(by rw[Qf,zai];omega);rw[hf',S.zek _ _ _ _ jg.out,lq.out,hln,e1,e2,<-Qbb,e1];simp[S.za6])
    clear hkc2;go_wp2_with (go_at_call 84;refine jh.out.mono ?_;rintro e w'⟨rfl,rfl⟩)
    go_roundw
    case rel=>
     refine⟨k+B.2,f-1,ps++[(B.1.put (k:Int),Value.slice ka kn kc,(⟨some ⟨b,o+k,none⟩,B.2,k+B.2-k⟩:Ext))],some ⟨g,0,none⟩,dx,_,by omega,by rw[Qa];rfl,rfl,by go_num,?_⟩;have hst:=dh.out;have e:(ps++[(B.1.put (k:Int),Value.slice ka kn kc,(⟨some ⟨b,o+k,none⟩,B.2,k+B.2-k⟩:Ext))]).length=ps.length+1:=(by simp);have h1:=hst.2.1;refine⟨hstep.out,by have:=bg.out.fuel;omega,?_,hst.1,hst.2.2,by rw[e];omega⟩;rw[e] at h1 ⊢;exact h1
    case measure=>simp[intOf];omega
  ·have hkl:k=ss.length:=by omega
   have hfin:=bg.out.spec;rw[Qw (by rw[zai];omega),S.zee,Qbk,Bool.or_false] at hfin;have fq:=hid hfin;have jd:Hid (Rep wr (λx=>w.heap.size<=x/\x<wr.heap.size) (.slice a ps.length cp) (ps.map Prod.fst)):=hid (zmc bg.out.own (λg hg=>bg.out.own.lt g hg) (λi p hp=>(bg.out.kids i p hp).move (λx hx=>⟨hx.1,hx.2.1⟩) (λ_ _=>rfl)));clear hfin hkl;go_wp2;go_ret2;refine⟨.slice a ps.length cp,?_,?_,bg.out.below⟩
   ·rw[fq.out];rfl
   ·rw[fq.out];exact jd.out
end Go.Proofs.YtlojgpkajkedeaaGreatDoor
namespace Go.Proofs.YtlojgpkajkedeaaGreatDoor
open Go
namespace S
theorem zm3 (l:List UInt8)(h:shallow l≠[]):indent l+(shallow l).length=l.length:=by
 unfold shallow at *;split at h
 ·exact absurd rfl h
 ·rename_i h4;rw[if_neg h4,Qf];have:=zby l;omega
theorem zmd (l:List UInt8):(item l).zaa<=l.length+1:=by
 by_cases h:za5 (shallow l)=0\/zb7 (shallow l) (za5 (shallow l))=false
 ·rw[zlu _ h];simp
 ·rw[zjo _ h];have h1:=zg5 (shallow l);have h2:=zby ((shallow l).drop (za5 (shallow l)));rw[Qf] at h2;have hne:shallow l≠[]:=by intro e;apply h;left;rw[e];rfl
  have h3:=zm3 l hne;simp only[];split<;>omega
theorem ztd (l:List UInt8)(h:(item l).ok=true):1<=(item l).zaa/\0<l.length:=by
 by_cases hn:za5 (shallow l)=0\/zb7 (shallow l) (za5 (shallow l))=false
 ·rw[zlu _ hn] at h;simp at h
 ·rw[zjo _ hn];have hne:shallow l≠[]:=by intro e;apply hn;left;rw[e];rfl
  have h3:=zm3 l hne;have h4:0<(shallow l).length:=Qbf.2 hne;have h5:za5 (shallow l)≠0:=λe=>hn (.inl e);exact⟨by simp only[];omega,by omega⟩
theorem zhz (m:Nat)(r:List (List UInt8))(n:Nat):bytes ((r.take n).map (λl=>l.drop m))<=bytes r:=by
 induction r generalizing n with
 | nil=>simp[bytes]
 | cons x r ih=>cases n with
  | zero=>simp[bytes]
  | succ n=>have:=ih n;simp only[Qz,Qs,bytes,List.sum_cons,Qf] at *;omega
theorem zvu (l:List UInt8)(r:List (List UInt8))(h:(item l).ok=true):bytes (zah (item l) (l::r))<bytes (l::r):=by
 obtain⟨h1,h2⟩:=ztd l h;unfold zah;split
 ·simp only[bytes,Qs,List.sum_cons,List.map_nil,List.sum_nil,Qi];omega
 ·obtain⟨n,hn⟩:∃n,zax (item l).zaa (l::r)=n+1:=⟨zax (item l).zaa (l::r)-1,by have:=zde (item l).zaa (l::r);omega⟩;have h3:=zhz (item l).zaa r n;rw[hn,Qz,Qs];simp only[bytes,Qs,List.sum_cons,Qf] at *;omega
theorem zf9 (kind:UInt8)(l:List UInt8)(r:List (List UInt8))(h:(zaw kind (l::r)).ok=true):zaw kind (l::r)=item l/\(item l).kind=kind/\(item l).ok=true:=by
 unfold zaw at *;simp only[] at *;split at h
 ·simp at h
 ·rename_i hr;simp at h;rw[if_neg hr];refine⟨?_,h.2,h.1⟩;cases hi:item l with
  | mk a b c d e=>rw[hi] at h;simp at h;simp[h]
end S
end Go.Proofs.YtlojgpkajkedeaaGreatDoor
