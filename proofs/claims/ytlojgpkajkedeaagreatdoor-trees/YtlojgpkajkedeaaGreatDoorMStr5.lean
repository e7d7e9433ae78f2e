import Derived.Test.YtlojgpkajkedeaaGreatDoorMStr
import Derived.Test.YtlojgpkajkedeaaGreatDoorMW14
namespace Go.Proofs.YtlojgpkajkedeaaGreatDoor
open Go.RowKit
def zw0 (d:Nat):Prop:=∀ (b o cap:Nat) (s0:ByteArray) (ts:List ByteArray) (w:World),ts.length+1≤cap→b<w.heap.size→RowS w b o (s0::ts)→Env w→bytes (dat (s0::ts))≤d→(S.item s0.data.toList).ok=true →
 Calls Tryz.prog 122 #[.slice (some ⟨b,o,none⟩) (ts.length+1) cap,.agg #[.int .u8 ((S.item s0.data.toList).kind.toNat:Int),.int .i64 (S.item s0.data.toList).number,.int .i64 ((S.item s0.data.toList).zaa:Nat),.bool (S.item s0.data.toList).empty]] w fun e w'=>
  ∃ kv,e = .returned (.tuple #[zdl (S.zbg (S.za2 d) (S.item s0.data.toList) (dat (s0::ts))).1 kv,.int .i64 ((S.zbg (S.za2 d) (S.item s0.data.toList) (dat (s0::ts))).2:Nat)])∧Rep w' (fun x=>w.heap.size≤x∧x<w'.heap.size) kv (S.zbg (S.za2 d) (S.item s0.data.toList) (dat (s0::ts))).1.kids∧Below w.heap.size w w'
theorem zga (l:List UInt8) (h:S.zar l=true):(S.zcv l).length<l.length:=by
 unfold S.zar Lib.hasPrefix at h
 have h1:=S.zni l
 have h2:=Lib.trimPrefix_le ((S.shallow l).drop 1) [32]
 unfold S.zcv
 cases hs:S.shallow l with
 | nil=>rw[hs] at h;simp at h
 | cons c t=>rw[hs] at h1 h2;simp at h1 h2 ⊢;omega
theorem zml (l:List (List UInt8)):bytes (S.zad l)≤bytes l:=by
 induction l with
 | nil=>simp[S.zad]
 | cons x r ih=>
  simp only[S.zad];split
  ·rename_i h;have:=zga x h;simp only[bytes,List.map_cons,List.sum_cons] at *;omega
  ·simp[bytes]
theorem zlx (x:List UInt8) (r:List (List UInt8)) (h:S.zar x=true):bytes (S.zad (x::r))<bytes (x::r):=by
 have h1:=zga x h
 have h2:=zml r
 simp only[S.zad,if_pos h,bytes,List.map_cons,List.sum_cons] at *;omega
set_option maxHeartbeats 8000000 in
theorem znq (d:Nat) (hR:zow d) (hL:zw0 d) (b o cap:Nat) (s0:ByteArray) (ts:List ByteArray) (w:World) (hcap:ts.length+1≤cap) (hbw:b<w.heap.size) (hrow:RowS w b o (s0::ts)) (henv:Env w) (hd:bytes (dat (s0::ts))≤d) :
  Calls Tryz.prog 85 #[.slice (some ⟨b,o,none⟩) (ts.length+1) cap] w fun e w'=>
   ∃ kv,e = .returned (.tuple #[zdl (S.zah (S.za2 d) (dat (s0::ts))).1 kv,.int .i64 ((S.zah (S.za2 d) (dat (s0::ts))).2:Nat)])∧Rep w' (fun x=>w.heap.size≤x∧x<w'.heap.size) kv (S.zah (S.za2 d) (dat (s0::ts))).1.kids∧Below w.heap.size w w':=by
 have htot:=hrow.2
 have hlen:=hrow.len
 simp only[List.length_cons] at hlen
 have hs0:(s0::ts)[0]?=some s0:=rfl
 have hs47:s0.size≤140737488355328:=by have:=zdf _ _ s0 hs0;omega
 have hs6:s0.size≤1000000:=by have:=zdf _ _ s0 hs0;omega
 have hsm:s0.size≤maxLen:=by unfold maxLen;omega
 obtain ⟨WA,hWA⟩:∃ WA,WA=w.alloc (.cells #[.int .i64 0,.int .i64 0,.slice none 0 0,.int .i64 0,.string ⟨#[]⟩,.string ⟨#[]⟩,.bool false,.slice none 0 0] 110):=⟨_,rfl⟩
 have hsA:WA.heap.size=w.heap.size+1:=by rw[hWA];simp
 have hbA:Below w.heap.size w WA:=by rw[hWA];exact (Below.refl _ w).alloc (Nat.le_refl _) _
 have hx0:WA.heap[w.heap.size]?=some (.cells #[.int .i64 0,.int .i64 0,.slice none 0 0,.int .i64 0,.string ⟨#[]⟩,.string ⟨#[]⟩,.bool false,.slice none 0 0] 110):=by rw[hWA];exact za1 _ _
 have hrowA:=hid (hrow.below hbA hbw)
 have henvA:=hid (henv.below hbA)
 have hcell:(w.alloc (.cells #[.int .i64 0,.int .i64 0,.slice none 0 0,.int .i64 0,.string ⟨#[]⟩,.string ⟨#[]⟩,.bool false,.slice none 0 0] 110)).cell? ⟨b,o,none⟩=some (.string s0):=by rw[← hWA];exact hrowA.out.1 0 s0 hs0
 have hbWA:b<WA.heap.size:=by omega
 have hWAH:=hid hWA
 have hsAH:=hid hsA
 have hx0H:=hid hx0
 -- whatever a callee gives as a block,laid into the result's cell
 have fin:∀ (w2:World) (B:S.Blk) (ka:Option Addr) (kn kc:Nat),Below WA.heap.size WA w2→Rep w2 (fun x=>WA.heap.size≤x∧x<w2.heap.size) (.slice ka kn kc) B.kids →
   (w2.cell? ⟨w.heap.size,0,none⟩=some (.int .i64 0)∧w2.cell? ⟨w.heap.size,1,none⟩=some (.int .i64 0)∧w2.cell? ⟨w.heap.size,2,none⟩=some (.slice none 0 0)∧w2.cell? ⟨w.heap.size,3,none⟩=some (.int .i64 0)∧w2.cell? ⟨w.heap.size,4,none⟩=some (.string ⟨#[]⟩)∧w2.cell? ⟨w.heap.size,5,none⟩=some (.string ⟨#[]⟩)∧w2.cell? ⟨w.heap.size,6,none⟩=some (.bool false)∧w2.cell? ⟨w.heap.size,7,none⟩=some (.slice none 0 0)∧(∀ i,w2.frozen? ⟨w.heap.size,i,none⟩=false)) ∧
   (∀ v0 v1 v2 v3 v4 v5 v6 v7,Rep ((((((((w2.setCell ⟨w.heap.size,0,none⟩ v0).setCell ⟨w.heap.size,1,none⟩ v1).setCell ⟨w.heap.size,2,none⟩ v2).setCell ⟨w.heap.size,3,none⟩ v3).setCell ⟨w.heap.size,4,none⟩ v4).setCell ⟨w.heap.size,5,none⟩ v5).setCell ⟨w.heap.size,6,none⟩ v6).setCell ⟨w.heap.size,7,none⟩ v7) (fun x=>w.heap.size≤x∧x<((((((((w2.setCell ⟨w.heap.size,0,none⟩ v0).setCell ⟨w.heap.size,1,none⟩ v1).setCell ⟨w.heap.size,2,none⟩ v2).setCell ⟨w.heap.size,3,none⟩ v3).setCell ⟨w.heap.size,4,none⟩ v4).setCell ⟨w.heap.size,5,none⟩ v5).setCell ⟨w.heap.size,6,none⟩ v6).setCell ⟨w.heap.size,7,none⟩ v7).heap.size) (.slice ka kn kc) B.kids∧Below w.heap.size w ((((((((w2.setCell ⟨w.heap.size,0,none⟩ v0).setCell ⟨w.heap.size,1,none⟩ v1).setCell ⟨w.heap.size,2,none⟩ v2).setCell ⟨w.heap.size,3,none⟩ v3).setCell ⟨w.heap.size,4,none⟩ v4).setCell ⟨w.heap.size,5,none⟩ v5).setCell ⟨w.heap.size,6,none⟩ v6).setCell ⟨w.heap.size,7,none⟩ v7)):=by
  intro w2 B ka kn kc hb2 hrep
  have hk1:=hb2.block w.heap.size (by omega)
  rw[hx0] at hk1
  refine ⟨⟨za0 hk1 0 _ rfl,za0 hk1 1 _ rfl,za0 hk1 2 _ rfl,za0 hk1 3 _ rfl,za0 hk1 4 _ rfl,za0 hk1 5 _ rfl,za0 hk1 6 _ rfl,za0 hk1 7 _ rfl,za7 hk1⟩,fun v0 v1 v2 v3 v4 v5 v6 v7=>⟨?_,?_⟩⟩
  ·exact hrep.move (fun x hx=>⟨by omega,by rw[zki];exact hx.2⟩) (fun x hx=>ziv _ _ _ _ _ _ _ _ x (by omega))
  ·repeat (refine Below.setCell ?_ (by simp) _)
   exact hbA.trans (hb2.mono (by omega))
 have finH:=hid fin
 have hRB:Hid (S.zah (S.za2 d) (dat (s0::ts))=(if 4≤S.indent s0.data.toList then S.zbb (dat (s0::ts))
  else if S.zbu s0.data.toList=true then (.mk 4 0 [] [] false [],1)
  else if 0<S.zau s0.data.toList then (.mk 2 (S.zau s0.data.toList) [] (S.zaj s0.data.toList) false [],1)
  else if (S.fence s0.data.toList).ok=true then S.zcy (S.fence s0.data.toList) (dat (s0::ts))
  else if S.zar s0.data.toList=true then (.mk 5 0 [] [] false (S.za2 d (S.zad (dat (s0::ts)))).1,(S.zad (dat (s0::ts))).length)
  else if (S.item s0.data.toList).ok=true then S.zbg (S.za2 d) (S.item s0.data.toList) (dat (s0::ts))
  else S.za8 (dat (s0::ts)))):=hid rfl
 obtain ⟨ind,hind⟩:∃ x,S.indent s0.data.toList=x:=⟨_,rfl⟩
 obtain ⟨lv,hlv⟩:∃ x,S.zau s0.data.toList=x:=⟨_,rfl⟩
 have hIn:Hid (∀ wx,Calls Tryz.prog 112 #[.string s0] wx fun e w'=>e = .returned (.int .i64 (ind:Nat))∧wx=w'):=hid (fun wx=>(zb5 s0 wx hsm).mono (fun e w' ⟨h1,h2⟩=>⟨by rw[h1,hind],h2.symm⟩))
 have hTi:Hid (∀ wx,Calls Tryz.prog 115 #[.string s0] wx fun e w'=>e = .returned (.int .i64 (lv:Nat))∧wx=w'):=hid (fun wx=>(zee s0 wx hsm).mono (fun e w' ⟨h1,h2⟩=>⟨by rw[h1,hlv],h2.symm⟩))
 have hindB:ind≤s0.size:=by rw[← hind,← S.length_data];exact S.zbt _
 rw[hind,hlv] at hRB
 clear fin hsA hx0 hWA
 by_cases h4:4≤ind
 ·have hres:Hid (S.zah (S.za2 d) (dat (s0::ts))=S.zbb (dat (s0::ts))):=hid (by rw[hRB.out,if_pos h4])
  have hCI:=hid (zk1 b o cap (s0::ts) WA (by simp) (by simpa using hcap) hbWA hrowA.out)
  go_enter Tryz.func85,Tryz.ntmps85
  go_wp2_with (first|(go_at_call 112;refine (hIn.out _).mono ?_;rintro e w' ⟨rfl,rfl⟩)|(go_at_call 114;refine (hRu.out _).mono ?_;rintro e w' ⟨rfl,rfl⟩)|(go_at_call 115;refine (hTi.out _).mono ?_;rintro e w' ⟨rfl,rfl⟩))
  rw[← hWAH.out]
  refine hCI.out.mono ?_
  rintro e w2 ⟨rfl,hb2⟩
  obtain ⟨⟨d0,d1,d2,d3,d4,d5,d6,d7,g0⟩,hfin⟩:=finH.out w2 (S.zbb (dat (s0::ts))).1 none 0 0 hb2 .nil
  have hfinH:=hid hfin
  clear hfin hb2
  simp only[zdl]
  go_wp2
  refine bodyPost_ret (v:=.tuple #[zdl (S.zbb (dat (s0::ts))).1 (.slice none 0 0),.int .i64 ((S.zbb (dat (s0::ts))).2:Nat)]) (by simp[results,Tryz.results85,go_sem,d0,d1,d2,d3,d4,d5,d6,d7,zdl]) rfl ⟨(.slice none 0 0),?_,?_,?_⟩
  ·rw[hres.out]
  ·rw[hres.out];exact (hfinH.out _ _ _ _ _ _ _ _).1
  ·exact (hfinH.out _ _ _ _ _ _ _ _).2
 cases hru:S.zbu s0.data.toList
 case true=>
  have hRu:Hid (∀ wx,Calls Tryz.prog 114 #[.string s0] wx fun e w'=>e = .returned (.bool true)∧wx=w'):=hid (fun wx=>(zdn s0 wx hsm).mono (fun e w' ⟨h1,h2⟩=>⟨by rw[h1,hru],h2.symm⟩))
  have hres:Hid (S.zah (S.za2 d) (dat (s0::ts))=(.mk 4 0 [] [] false [],1)):=hid (by rw[hRB.out,if_neg h4,if_pos hru])
  obtain ⟨⟨d0,d1,d2,d3,d4,d5,d6,d7,g0⟩,hfin⟩:=finH.out WA (.mk 4 0 [] [] false []) none 0 0 (Below.refl _ _) .nil
  have hfinH:=hid hfin
  clear hfin
  rw[hWAH.out] at d0 d1 d2 d3 d4 d5 d6 d7 g0
  go_enter Tryz.func85,Tryz.ntmps85
  go_wp2_with (first|(go_at_call 112;refine (hIn.out _).mono ?_;rintro e w' ⟨rfl,rfl⟩)|(go_at_call 114;refine (hRu.out _).mono ?_;rintro e w' ⟨rfl,rfl⟩)|(go_at_call 115;refine (hTi.out _).mono ?_;rintro e w' ⟨rfl,rfl⟩))
  exact bodyPost_ret (v:=.tuple #[.agg #[.int .i64 4,.int .i64 0,.slice none 0 0,.int .i64 0,.string ⟨#[]⟩,.string ⟨#[]⟩,.bool false,.slice none 0 0],.int .i64 1]) (by simp[results,Tryz.results85,go_sem]) rfl ⟨.slice none 0 0,by rw[hres.out];rfl,by rw[hres.out];exact .nil,(Below.refl _ _).alloc (Nat.le_refl _) _⟩
 case false=>
 have hRu:Hid (∀ wx,Calls Tryz.prog 114 #[.string s0] wx fun e w'=>e = .returned (.bool false)∧wx=w'):=hid (fun wx=>(zdn s0 wx hsm).mono (fun e w' ⟨h1,h2⟩=>⟨by rw[h1,hru],h2.symm⟩))
 have hRB2:Hid (_=_):=hid (hRB.out.trans (by rw[if_neg h4,if_neg (by rw[hru];simp)]))
 clear hRB
 by_cases hl0:0<lv
 ·have hres:Hid (S.zah (S.za2 d) (dat (s0::ts))=(.mk 2 (lv:Int) [] (S.zaj s0.data.toList) false [],1)):=hid (by rw[hRB2.out,if_pos hl0])
  have hTC:=hid (zk5 s0 WA hsm)
  go_enter Tryz.func85,Tryz.ntmps85
  go_wp2_with (first|(go_at_call 112;refine (hIn.out _).mono ?_;rintro e w' ⟨rfl,rfl⟩)|(go_at_call 114;refine (hRu.out _).mono ?_;rintro e w' ⟨rfl,rfl⟩)|(go_at_call 115;refine (hTi.out _).mono ?_;rintro e w' ⟨rfl,rfl⟩))
  rw[← hWAH.out]
  refine hTC.out.mono ?_
  rintro e w2 ⟨r,rfl,hr,hrl,hb2⟩
  obtain ⟨⟨d0,d1,d2,d3,d4,d5,d6,d7,g0⟩,hfin⟩:=finH.out w2 (.mk 2 (lv:Int) [] (S.zaj s0.data.toList) false []) none 0 0 hb2 .nil
  have hfinH:=hid hfin
  have hrS:Hid (Value.string r = .string (S.B (S.zaj s0.data.toList))):=hid (by rw[← hr.out,S.zbq])
  clear hfin hb2
  go_wp2
  refine bodyPost_ret (v:=.tuple #[.agg #[.int .i64 2,.int .i64 0,.slice none 0 0,.int .i64 (lv:Nat),.string ⟨#[]⟩,.string r,.bool false,.slice none 0 0],.int .i64 1]) (by simp[results,Tryz.results85,go_sem,d0,d1,d2,d3,d4,d5,d6,d7]) rfl ⟨.slice none 0 0,?_,?_,?_⟩
  ·rw[hres.out,hrS.out];rfl
  ·rw[hres.out];exact (hfinH.out _ _ _ _ _ _ _ _).1
  ·exact (hfinH.out _ _ _ _ _ _ _ _).2
 have hRB3:Hid (_=_):=hid (hRB2.out.trans (by rw[if_neg hl0]))
 clear hRB2
 obtain ⟨F,hF⟩:∃ F,S.fence s0.data.toList=F:=⟨_,rfl⟩
 have hFO:=hid (zm2 s0 WA hsm)
 rw[hF] at hFO hRB3
 have hFb:F.ind≤1000000:=by rw[← hF];unfold S.fence;split <;> (try split) <;> (try simp) <;> omega
 clear hF
 cases hok:F.ok
 case true=>
  have hres:Hid (S.zah (S.za2 d) (dat (s0::ts))=S.zcy F (dat (s0::ts))):=hid (by rw[hRB3.out,if_pos hok])
  rw[hok] at hFO
  go_enter Tryz.func85,Tryz.ntmps85
  go_wp2_with (first|(go_at_call 112;refine (hIn.out _).mono ?_;rintro e w' ⟨rfl,rfl⟩)|(go_at_call 114;refine (hRu.out _).mono ?_;rintro e w' ⟨rfl,rfl⟩)|(go_at_call 115;refine (hTi.out _).mono ?_;rintro e w' ⟨rfl,rfl⟩))
  rw[← hWAH.out]
  refine hFO.out.mono ?_
  rintro e w1 ⟨info,rfl,hi,hil,hb1⟩
  have hbF:=hb1.alloc hb1.size (.cells #[.int .u8 (F.mark.toNat:Int),.int .i64 (F.width:Nat),.int .i64 (F.ind:Nat),.string info] 181)
  have hCF:=hid (zmo b o cap s0 ts F.mark F.width F.ind info (w1.alloc (.cells #[.int .u8 (F.mark.toNat:Int),.int .i64 (F.width:Nat),.int .i64 (F.ind:Nat),.string info] 181)) (Nat.lt_of_lt_of_le hbWA hbF.size) (hrowA.out.below hbF hbWA) hFb)
  have hbFH:=hid hbF
  have hszF:WA.heap.size≤(w1.alloc (.cells #[.int .u8 (F.mark.toNat:Int),.int .i64 (F.width:Nat),.int .i64 (F.ind:Nat),.string info] 181)).heap.size:=hbF.size
  have hszFH:=hid hszF
  clear hb1 hbF hszF
  go_wp2_with fail
  refine hCF.out.mono ?_
  rintro e w2 ⟨rfl,hb2⟩
  obtain ⟨⟨d0,d1,d2,d3,d4,d5,d6,d7,g0⟩,hfin⟩:=finH.out w2 (S.zcy F (dat (s0::ts))).1 none 0 0 (hbFH.out.trans (hb2.mono hszFH.out)) .nil
  have hfinH:=hid hfin
  have hrS:Hid (Value.string info = .string (S.B F.info)):=hid (by rw[← hi.out,S.zbq])
  clear hfin hb2
  go_wp2
  refine bodyPost_ret (v:=.tuple #[.agg #[.int .i64 3,.int .i64 0,.slice none 0 0,.int .i64 0,.string info,.string (S.B (S.zat F.ind ((dat ts).take (S.zb8 F.mark F.width (dat ts))))),.bool false,.slice none 0 0],.int .i64 ((min (S.zb8 F.mark F.width (dat ts)+1+1) (ts.length+1):Nat):Int)]) (by simp[results,Tryz.results85,go_sem,d0,d1,d2,d3,d4,d5,d6,d7]) rfl ⟨.slice none 0 0,?_,?_,?_⟩
  ·rw[hres.out,hrS.out];unfold S.zcy;rw[zai];rfl
  ·rw[hres.out];exact (hfinH.out _ _ _ _ _ _ _ _).1
  ·exact (hfinH.out _ _ _ _ _ _ _ _).2
 case false=>
 have hRB4:Hid (_=_):=hid (hRB3.out.trans (by rw[if_neg (by rw[hok];simp)]))
 rw[hok] at hFO
 clear hRB3 hok
 cases hqu:S.zar s0.data.toList
 case true=>
  have hIQ:Hid (∀ wx,Calls Tryz.prog 119 #[.string s0] wx fun e w'=>e = .returned (.bool true)∧wx=w'):=hid (fun wx=>(zdm s0 wx hsm).mono (fun e w' ⟨h1,h2⟩=>⟨by rw[h1,hqu],h2.symm⟩))
  have hres:Hid (S.zah (S.za2 d) (dat (s0::ts))=(.mk 5 0 [] [] false (S.za2 d (S.zad (dat (s0::ts)))).1,(S.zad (dat (s0::ts))).length)):=hid (by rw[hRB4.out,if_pos hqu])
  go_enter Tryz.func85,Tryz.ntmps85
  go_wp2_with (first|(go_at_call 112;refine (hIn.out _).mono ?_;rintro e w' ⟨rfl,rfl⟩)|(go_at_call 114;refine (hRu.out _).mono ?_;rintro e w' ⟨rfl,rfl⟩)|(go_at_call 115;refine (hTi.out _).mono ?_;rintro e w' ⟨rfl,rfl⟩))
  rw[← hWAH.out]
  refine hFO.out.mono ?_
  rintro e w1 ⟨info,rfl,hi,hil,hb1⟩
  have hbF:=hb1.alloc hb1.size (.cells #[.int .u8 (F.mark.toNat:Int),.int .i64 (F.width:Nat),.int .i64 (F.ind:Nat),.string info] 181)
  have hCQ:=hid (zoa d hR b o cap (s0::ts) (w1.alloc (.cells #[.int .u8 (F.mark.toNat:Int),.int .i64 (F.width:Nat),.int .i64 (F.ind:Nat),.string info] 181)) (Nat.lt_of_lt_of_le hbWA hbF.size) (hrowA.out.below hbF hbWA) (henvA.out.below hbF) (by rw[zcu];simp[hqu]) (Nat.lt_of_lt_of_le (zlx s0.data.toList (dat ts) hqu) hd))
  have hbFH:=hid hbF
  have hszF:WA.heap.size≤(w1.alloc (.cells #[.int .u8 (F.mark.toNat:Int),.int .i64 (F.width:Nat),.int .i64 (F.ind:Nat),.string info] 181)).heap.size:=hbF.size
  have hszFH:=hid hszF
  clear hb1 hbF hszF
  go_wp2_with (go_at_call 119;refine (hIQ.out _).mono ?_;rintro e w' ⟨rfl,rfl⟩)
  refine hCQ.out.mono ?_
  rintro e w2 ⟨kv,rfl,hrep,hb2⟩
  obtain ⟨ka,kn,kc,rfl⟩:=hrep.form
  obtain ⟨⟨d0,d1,d2,d3,d4,d5,d6,d7,g0⟩,hfin⟩:=finH.out w2 (.mk 5 0 [] [] false (S.za2 d (S.zad (dat (s0::ts)))).1) ka kn kc (hbFH.out.trans (hb2.mono hszFH.out)) (hrep.move (fun x hx=>⟨Nat.le_trans hszFH.out hx.1,hx.2⟩) (fun _ _=>rfl))
  have hfinH:=hid hfin
  clear hfin hb2 hrep
  simp only[zdl]
  go_wp2
  refine bodyPost_ret (v:=.tuple #[zdl (.mk 5 0 [] [] false (S.za2 d (S.zad (dat (s0::ts)))).1) (.slice ka kn kc),.int .i64 ((S.zad (dat (s0::ts))).length:Nat)]) (by simp[results,Tryz.results85,go_sem,d0,d1,d2,d3,d4,d5,d6,d7,zdl]) rfl ⟨.slice ka kn kc,?_,?_,?_⟩
  ·rw[hres.out]
  ·rw[hres.out];exact (hfinH.out _ _ _ _ _ _ _ _).1
  ·exact (hfinH.out _ _ _ _ _ _ _ _).2
 case false=>
 have hIQ:Hid (∀ wx,Calls Tryz.prog 119 #[.string s0] wx fun e w'=>e = .returned (.bool false)∧wx=w'):=hid (fun wx=>(zdm s0 wx hsm).mono (fun e w' ⟨h1,h2⟩=>⟨by rw[h1,hqu],h2.symm⟩))
 have hRB5:Hid (_=_):=hid (hRB4.out.trans (by rw[if_neg (by rw[hqu];simp)]))
 have hLL:=hid (fun wx h1 h2 h3 h4=>hL b o cap s0 ts wx hcap h1 h2 h3 hd h4)
 have hIO:=hid (fun wx he=>zjk s0 wx hs47 he)
 obtain ⟨it,hit⟩:∃ it,S.item s0.data.toList=it:=⟨_,rfl⟩
 rw[hit] at hRB5 hLL hIO
 clear hRB4 hit hqu
 cases hok:it.ok
 case true=>
  have hres:Hid (S.zah (S.za2 d) (dat (s0::ts))=S.zbg (S.za2 d) it (dat (s0::ts))):=hid (by rw[hRB5.out,if_pos hok])
  rw[hok] at hIO
  go_enter Tryz.func85,Tryz.ntmps85
  go_wp2_with (first|(go_at_call 112;refine (hIn.out _).mono ?_;rintro e w' ⟨rfl,rfl⟩)|(go_at_call 114;refine (hRu.out _).mono ?_;rintro e w' ⟨rfl,rfl⟩)|(go_at_call 115;refine (hTi.out _).mono ?_;rintro e w' ⟨rfl,rfl⟩))
  rw[← hWAH.out]
  refine hFO.out.mono ?_
  rintro e w1 ⟨info,rfl,hi,hil,hb1⟩
  have hbF:=hb1.alloc hb1.size (.cells #[.int .u8 (F.mark.toNat:Int),.int .i64 (F.width:Nat),.int .i64 (F.ind:Nat),.string info] 181)
  have henvF:=hid (henvA.out.below hbF)
  have hbFH:=hid hbF
  have hszF:WA.heap.size≤(w1.alloc (.cells #[.int .u8 (F.mark.toNat:Int),.int .i64 (F.width:Nat),.int .i64 (F.ind:Nat),.string info] 181)).heap.size:=hbF.size
  have hszFH:=hid hszF
  clear hb1 hbF hszF
  go_wp2_with (go_at_call 119;refine (hIQ.out _).mono ?_;rintro e w' ⟨rfl,rfl⟩)
  refine (hIO.out _ henvF.out).mono ?_
  rintro e w3 ⟨rfl,hb3⟩
  have hbG:=(hbFH.out.trans (hb3.mono hszFH.out)).alloc (Nat.le_trans hszFH.out hb3.size) (.cells #[.int .u8 (it.kind.toNat:Int),.int .i64 it.number,.int .i64 (it.zaa:Nat),.bool it.empty] 186)
  have hCL:=hid (hLL.out (w3.alloc (.cells #[.int .u8 (it.kind.toNat:Int),.int .i64 it.number,.int .i64 (it.zaa:Nat),.bool it.empty] 186)) (Nat.lt_of_lt_of_le hbWA hbG.size) (hrowA.out.below hbG hbWA) (henvA.out.below hbG) hok)
  have hbGH:=hid hbG
  have hszG:WA.heap.size≤(w3.alloc (.cells #[.int .u8 (it.kind.toNat:Int),.int .i64 it.number,.int .i64 (it.zaa:Nat),.bool it.empty] 186)).heap.size:=hbG.size
  have hszGH:=hid hszG
  clear hb3 hbG hszG
  go_wp2_with fail
  refine hCL.out.mono ?_
  rintro e w2 ⟨kv,rfl,hrep,hb2⟩
  obtain ⟨ka,kn,kc,rfl⟩:=hrep.form
  obtain ⟨⟨d0,d1,d2,d3,d4,d5,d6,d7,g0⟩,hfin⟩:=finH.out w2 (S.zbg (S.za2 d) it (dat (s0::ts))).1 ka kn kc (hbGH.out.trans (hb2.mono hszGH.out)) (hrep.move (fun x hx=>⟨Nat.le_trans hszGH.out hx.1,hx.2⟩) (fun _ _=>rfl))
  have hfinH:=hid hfin
  clear hfin hb2 hrep
  simp only[zdl]
  go_wp2
  refine bodyPost_ret (v:=.tuple #[zdl (S.zbg (S.za2 d) it (dat (s0::ts))).1 (.slice ka kn kc),.int .i64 ((S.zbg (S.za2 d) it (dat (s0::ts))).2:Nat)]) (by simp[results,Tryz.results85,go_sem,d0,d1,d2,d3,d4,d5,d6,d7,zdl]) rfl ⟨.slice ka kn kc,?_,?_,?_⟩
  ·rw[hres.out]
  ·rw[hres.out];exact (hfinH.out _ _ _ _ _ _ _ _).1
  ·exact (hfinH.out _ _ _ _ _ _ _ _).2
 case false=>
  have hres:Hid (S.zah (S.za2 d) (dat (s0::ts))=S.za8 (dat (s0::ts))):=hid (by rw[hRB5.out,if_neg (by rw[hok];simp)])
  have hkids:(S.za8 (dat (s0::ts))).1.kids=[]:=by
   unfold S.za8;simp only[];split
   ·rfl
   ·split <;> rfl
  rw[hok] at hIO
  go_enter Tryz.func85,Tryz.ntmps85
  go_wp2_with (first|(go_at_call 112;refine (hIn.out _).mono ?_;rintro e w' ⟨rfl,rfl⟩)|(go_at_call 114;refine (hRu.out _).mono ?_;rintro e w' ⟨rfl,rfl⟩)|(go_at_call 115;refine (hTi.out _).mono ?_;rintro e w' ⟨rfl,rfl⟩))
  rw[← hWAH.out]
  refine hFO.out.mono ?_
  rintro e w1 ⟨info,rfl,hi,hil,hb1⟩
  have hbF:=hb1.alloc hb1.size (.cells #[.int .u8 (F.mark.toNat:Int),.int .i64 (F.width:Nat),.int .i64 (F.ind:Nat),.string info] 181)
  have henvF:=hid (henvA.out.below hbF)
  have hbFH:=hid hbF
  have hszF:WA.heap.size≤(w1.alloc (.cells #[.int .u8 (F.mark.toNat:Int),.int .i64 (F.width:Nat),.int .i64 (F.ind:Nat),.string info] 181)).heap.size:=hbF.size
  have hszFH:=hid hszF
  clear hb1 hbF hszF
  go_wp2_with (go_at_call 119;refine (hIQ.out _).mono ?_;rintro e w' ⟨rfl,rfl⟩)
  refine (hIO.out _ henvF.out).mono ?_
  rintro e w3 ⟨rfl,hb3⟩
  have hbG:=(hbFH.out.trans (hb3.mono hszFH.out)).alloc (Nat.le_trans hszFH.out hb3.size) (.cells #[.int .u8 (it.kind.toNat:Int),.int .i64 it.number,.int .i64 (it.zaa:Nat),.bool it.empty] 186)
  have hCP:=hid (zji b o cap s0 ts (w3.alloc (.cells #[.int .u8 (it.kind.toNat:Int),.int .i64 it.number,.int .i64 (it.zaa:Nat),.bool it.empty] 186)) hcap (Nat.lt_of_lt_of_le hbWA hbG.size) (hrowA.out.below hbG hbWA) (henvA.out.below hbG))
  have hbGH:=hid hbG
  have hszG:WA.heap.size≤(w3.alloc (.cells #[.int .u8 (it.kind.toNat:Int),.int .i64 it.number,.int .i64 (it.zaa:Nat),.bool it.empty] 186)).heap.size:=hbG.size
  have hszGH:=hid hszG
  have hkidsH:=hid hkids
  clear hb3 hbG hszG hkids
  go_wp2_with fail
  refine hCP.out.mono ?_
  rintro e w2 ⟨rfl,hb2⟩
  obtain ⟨⟨d0,d1,d2,d3,d4,d5,d6,d7,g0⟩,hfin⟩:=finH.out w2 (S.za8 (dat (s0::ts))).1 none 0 0 (hbGH.out.trans (hb2.mono hszGH.out)) (by rw[hkidsH.out];exact .nil)
  have hfinH:=hid hfin
  clear hfin hb2
  simp only[zdl]
  go_wp2
  refine bodyPost_ret (v:=.tuple #[zdl (S.za8 (dat (s0::ts))).1 (.slice none 0 0),.int .i64 ((S.za8 (dat (s0::ts))).2:Nat)]) (by simp[results,Tryz.results85,go_sem,d0,d1,d2,d3,d4,d5,d6,d7,zdl]) rfl ⟨.slice none 0 0,?_,?_,?_⟩
  ·rw[hres.out]
  ·rw[hres.out];exact (hfinH.out _ _ _ _ _ _ _ _).1
  ·exact (hfinH.out _ _ _ _ _ _ _ _).2
theorem Tryz.zwa:(Tryz.prog.info? 110).map (fun i=>(i.zero,i.size,i.bytes))=some (some (.agg #[.int .i64 0,.int .i64 0,.slice none 0 0,.int .i64 0,.string ⟨#[]⟩,.string ⟨#[]⟩,.bool false,.slice none 0 0]),8,112):=by kernel_rfl
structure Ext where
 la:Option Addr
 ln:Nat
 lc:Nat
def six (p:S.Blk × Value × Ext):List Value:=[.int .i64 p.1.kind,.int .i64 p.1.line,.slice p.2.2.la p.2.2.ln p.2.2.lc,.int .i64 p.1.n,.string (S.B p.1.info),.string (S.B p.1.text),.bool p.1.loose,p.2.1]
def cellsOf (ps:List (S.Blk × Value × Ext)):List Value:=(ps.map six).flatten
theorem zgf (ps:List (S.Blk × Value × Ext)) (p:S.Blk × Value × Ext):cellsOf (ps++[p])=cellsOf ps++six p:=by simp[cellsOf]
theorem zqr (ps:List (S.Blk × Value × Ext)) (i j:Nat) (p:S.Blk × Value × Ext) (h:ps[i]?=some p) (hj:j<8):(cellsOf ps)[8*i+j]?=(six p)[j]?:=by
 induction ps generalizing i with
 | nil=>simp at h
 | cons q r ih=>
  have hl:(six q).length=8:=rfl
  cases i with
  | zero=>
   simp at h;subst h
   show (six q++cellsOf r)[8*0+j]?=_
   rw[List.getElem?_append_left (by rw[hl];omega)];simp
  | succ i=>
   have:=ih i (by simpa using h)
   show (six q++cellsOf r)[8*(i+1)+j]?=_
   rw[List.getElem?_append_right (by rw[hl];omega),hl,← this];congr 1;omega
theorem zkv {w:World} {B:Nat} {v:Value} {ps:List (S.Blk × Value × Ext)} {A:Nat→Prop} (h:w.ownsRow B 110 8 v ps.length (cellsOf ps)) (hA:∀ g,v.ownBlock=some g→A g)
  (hk:∀ (i:Nat) (p:S.Blk × Value × Ext),ps[i]?=some p→Rep w A p.2.1 p.1.kids):Rep w A v (ps.map Prod.fst):=by
 rcases h.2 with ⟨h1,h2⟩|⟨g,cap,cur,h1,h2,h3,h4,h5,h6,h7⟩
 ·have:ps=[]:=List.eq_nil_of_length_eq_zero h2
  subst this;rw[h1];exact .nil
 ·subst h1
  have hc:∀ i j p u,ps[i]?=some p→j<8→(six p)[j]?=some u→w.cell? ⟨g,0+8*i+j,none⟩=some u:=by
   intro i j p u hi hj hu
   have hx:=zqr ps i j p hi hj
   rw[hu] at hx
   have:=h.cells (g:=g) rfl (8*i+j) u hx
   have ha:(⟨g,0,none⟩:Addr).add (8*i+j)=⟨g,0+8*i+j,none⟩:=by
    simp only[Addr.add];split
    ·rename_i h;simp <;> omega
    ·simp <;> omega
   rw[← ha];exact this
  have hlen:(ps.map Prod.fst).length=ps.length:=by simp
  rw[← hlen]
  refine .some g 0 cap (ps.map Prod.fst) (fun i=>(ps[i]?.map (fun p=>p.2.1)).getD .nilIface) (hA g rfl) (by rw[hlen];exact h4) ?_ ?_
  ·intro i t hi
   rw[List.getElem?_map] at hi
   cases hp:ps[i]? with
   | none=>rw[hp] at hi;simp at hi
   | some p=>
    rw[hp] at hi;simp at hi;subst hi
    refine ⟨hc i 0 p _ hp (by omega) rfl,hc i 1 p _ hp (by omega) rfl,⟨p.2.2.la,p.2.2.ln,p.2.2.lc,hc i 2 p _ hp (by omega) rfl⟩,hc i 3 p _ hp (by omega) rfl,hc i 4 p _ hp (by omega) rfl,hc i 5 p _ hp (by omega) rfl,hc i 6 p _ hp (by omega) rfl,?_⟩
    exact hc i 7 p _ hp (by omega) rfl
  ·intro i t hi
   rw[List.getElem?_map] at hi
   cases hp:ps[i]? with
   | none=>rw[hp] at hi;simp at hi
   | some p=>
    rw[hp] at hi;simp at hi;subst hi
    have:=hk i p hp
    simpa using this
theorem zh7 (l:List (List UInt8)) (k:Nat):bytes (l.drop k)≤bytes l:=by
 induction l generalizing k with
 | nil=>simp
 | cons x r ih=>cases k with
  | zero=>simp
  | succ k=>have:=ih k;simp only[List.drop_succ_cons];simp only[bytes,List.map_cons,List.sum_cons] at *;omega
structure zsx (d:Nat) (w:World) (ss:List ByteArray) (k f:Nat) (ps:List (S.Blk × Value × Ext)) (v:Value) (pb:Bool) (wr:World):Prop where
 spec:S.za2 (d+1) (dat ss)=(ps.map Prod.fst++(S.rowFrom (S.za2 d) ss.length f ((dat ss).drop k)).1,pb || (S.rowFrom (S.za2 d) ss.length f ((dat ss).drop k)).2)
 fuel:ss.length-k≤f
 own:wr.ownsRow w.heap.size 110 8 v ps.length (cellsOf ps)
 kids:∀ (i:Nat) (p:S.Blk × Value × Ext),ps[i]?=some p→Rep wr (fun x=>w.heap.size≤x∧x<wr.heap.size∧some x≠v.ownBlock) p.2.1 p.1.kids
 below:Below w.heap.size w wr
 count:ps.length≤k
theorem zsx.step {d:Nat} {w wr w1 w2:World} {ss:List ByteArray} {k f g cap1:Nat} {ps:List (S.Blk × Value × Ext)} {v kv:Value} {pb:Bool} {B:S.Blk} {ln:Ext} {wX:World}
  (h:zsx d w ss k f ps v pb wr) (hb1:Below wr.heap.size wr w1) (hrep:Rep w1 (fun x=>wr.heap.size≤x∧x<w1.heap.size) kv B.kids)
  (hown3:w2.ownsRow w.heap.size 110 8 (.slice (some ⟨g,0,none⟩) (ps.length+1) cap1) (ps.length+1) (cellsOf ps++six (B,kv,ln))) (hbX:Below w1.heap.size w1 wX) (hsX:wX.heap.size=w1.heap.size+2) (hgrow:wX.grownBy w2 v.ownBlock)
  (hat:v.ownBlock=some g∨g=w1.heap.size+1+1) :
  (∀ (i:Nat) (p:S.Blk × Value × Ext),(ps++[(B,kv,ln)])[i]?=some p→Rep w2 (fun x=>w.heap.size≤x∧x<w2.heap.size∧some x≠some g) p.2.1 p.1.kids)∧w2.ownsRow w.heap.size 110 8 (.slice (some ⟨g,0,none⟩) (ps++[(B,kv,ln)]).length cap1) (ps++[(B,kv,ln)]).length (cellsOf (ps++[(B,kv,ln)]))∧Below w.heap.size w w2:=by
 have hlt:=h.own.lt
 have hs0:=h.below.size
 have hs1:=hb1.size
 have hs2:=hgrow.size
 have hsz:=hsX
 have hblk:∀ x,x<w1.heap.size→some x≠v.ownBlock→w2.heap[x]?=w1.heap[x]?:=by
  intro x hx hne
  rw[hgrow.block x (by omega) hne,hbX.block x hx]
 refine ⟨?_,?_,?_⟩
 ·intro i p hi
  by_cases hil:i<ps.length
  ·rw[List.getElem?_append_left hil] at hi
   refine (h.kids i p hi).move ?_ ?_
   ·intro x hx
    refine ⟨hx.1,by omega,?_⟩
    rcases hat with hat|hat
    ·rw[← hat];exact hx.2.2
    ·intro e;cases e;omega
   ·intro x hx
    rw[hblk x (by omega) hx.2.2,hb1.block x hx.2.1]
  ·rw[List.getElem?_append_right (by omega)] at hi
   have hi0:i-ps.length=0:=by have:=(List.getElem?_eq_some_iff.1 hi).1;simp at this;omega
   rw[hi0] at hi;simp at hi;subst hi
   refine hrep.move ?_ ?_
   ·intro x hx
    refine ⟨by omega,by omega,?_⟩
    intro e
    rcases hat with hat|hat
    ·have:=hlt g hat;cases e;omega
    ·cases e;omega
   ·intro x hx
    refine hblk x hx.2 (fun e=>?_)
    have:=hlt x e.symm;omega
 ·rw[zgf,List.length_append];exact hown3
 ·refine Below.grown ((h.below.trans (hb1.mono hs0)).trans (hbX.mono (by omega))) hgrow (by omega) (fun q hq=>(hlt q hq).1)
set_option maxRecDepth 100000 in
set_option maxHeartbeats 8000000 in
theorem zr0 (d:Nat) (hR:zow d) (hL:zw0 d):zow (d+1):=by
 intro b o cap ss w hcap hbw hrow henv hd
 have htot:=hrow.2
 have hlen:=hrow.len
 obtain ⟨i0,hi,hz0,hz1,hz2⟩:=info_parts Tryz.zwa
 have hbl:=S.zep (dat ss)
 rw[zai] at hbl
 obtain ⟨k0,hk0⟩:∃ k0,S.za5 (dat ss)=k0:=⟨_,rfl⟩
 have hCB0:Hid (Calls Tryz.prog 84 #[.slice (some ⟨b,o,none⟩) ss.length cap] w fun e w'=>e = .returned (.int .i64 (k0:Nat))∧w=w'):=hid ((zdg b o cap ss w (by omega) hrow.row).mono (fun e w' ⟨h1,h2⟩=>⟨by rw[h1,hk0],h2.symm⟩))
 have hstart:Hid (zsx d w ss k0 ss.length [] (.slice none 0 0) false w):=hid ⟨by rw[← hk0];unfold S.za2;rw[zai];simp,by omega,World.ownsRow_nil _ _ _ _,by intro i p h;simp at h,Below.refl _ _,by simp⟩
 rw[hk0] at hbl
 have hRH:=hid hR
 have hLH:=hid hL
 clear hk0 hR hL
 go_enter Tryz.func64,Tryz.ntmps64
 go_wp2_with (go_at_call 84;refine hCB0.out.mono ?_;rintro e w' ⟨rfl,rfl⟩)
 go_loopw [2,3,4,5,6,7] (fun v p at' _ _ _ wr=>∃ (k f:Nat) (ps:List (S.Blk × Value × Ext)) (a:Option Addr) (cp:Nat) (pb:Bool),k≤ss.length∧v = .slice a ps.length cp∧p = .bool pb∧at' = .int .i64 k∧zsx d w ss k f ps v pb wr) (fun _ _ at' _ _ _ _=>ss.length-(intOf at').toNat)
 case atStart=>exact ⟨k0,ss.length,[],none,0,false,hbl,rfl,rfl,rfl,hstart.out⟩
 case round=>
  obtain ⟨k,f,ps,a,cp,pb,hk,rfl,rfl,rfl,hrel'⟩:=hrel
  have hrelH:=hid hrel'
  have hszr:w.heap.size≤wr.heap.size:=hrel'.below.size
  clear hrel'
  by_cases hlt:k<ss.length
  ·obtain ⟨s,ts,hdr⟩:∃ s ts,ss.drop k=s::ts:=by
    cases h:ss.drop k with
    | nil=>have:=congrArg List.length h;rw[List.length_drop] at this;simp at this;omega
    | cons s ts=>exact ⟨s,ts,rfl⟩
   have hts:ss.length-k=ts.length+1:=by have:=congrArg List.length hdr;rw[List.length_drop] at this;simpa using this
   have hkc:k<cap:=by omega
   obtain ⟨B,hB⟩:∃ B,S.zah (S.za2 d) ((dat ss).drop k)=B:=⟨_,rfl⟩
   have hddr:(dat ss).drop k=dat (s::ts):=by rw[← ziy,hdr]
   have hsz:=S.zfc (S.za2 d) s.data.toList (dat ts)
   have hszB:1≤B.2∧B.2≤ss.length-k:=by
    rw[← hB,hddr,hts];have h2:=hsz.2;rw[List.length_cons,zai] at h2;exact ⟨hsz.1,h2⟩
   obtain ⟨hsz1,hsz2⟩:=hszB
   have hRB:Hid (Calls Tryz.prog 85 #[.slice (some ⟨b,o+k,none⟩) (ss.length-k) (cap-k)] wr fun e w'=>∃ kv,e = .returned (.tuple #[zdl B.1 kv,.int .i64 (B.2:Nat)])∧Rep w' (fun x=>wr.heap.size≤x∧x<w'.heap.size) kv B.1.kids∧Below wr.heap.size wr w'):=hid (by
    have hrd:=(hrow.below hrelH.out.below hbw).drop k
    rw[hdr] at hrd
    have:=znq d hRH.out hLH.out b (o+k) (cap-k) s ts wr (by omega) (by omega) hrd (henv.below hrelH.out.below) (by
     rw[← hddr]
     have:=zh7 (dat ss) k
     omega)
    rw[← hddr,hB,← hts] at this
    exact this)
   have hBH:=hid hB
   have hneD:Hid ((dat ss).drop k≠[]):=hid (by rw[hddr];simp[dat])
   clear hts hdr hddr hsz hB
   go_wp2_with fail
   refine hRB.out.mono ?_
   rintro e w1 ⟨kv,rfl,hrep,hb1⟩
   obtain ⟨ka,kn,kc,rfl⟩:=hrep.form
   have hown1:w1.ownsRow w.heap.size 110 8 (.slice a ps.length cp) ps.length (cellsOf ps):=hrelH.out.own.kept (Below.zgu hb1) (by
    cases h:(Value.slice a ps.length cp).ownBlock with
    | none=>exact .inl rfl
    | some g=>exact .inr (by simp))
   have hown2:Hid (∀ wz o2,Below w1.heap.size w1 wz→(wz.alloc o2).ownsRow w.heap.size 110 8 (.slice a ps.length cp) ps.length (cellsOf ps)):=hid (fun wz o2 hz=>(hown1.kept (Below.zgu hz) (by
    cases h:(Value.slice a ps.length cp).ownBlock with
    | none=>exact .inl rfl
    | some g=>exact .inr (by simp))).alloc o2)
   have hnew:Hid (∀ (wz:World),wz.heap.size=w1.heap.size+1→∀ j u,(six (B.1.put (k:Int),.slice ka kn kc,(⟨some ⟨b,o+k,none⟩,B.2,cap-k⟩:Ext)))[j]?=some u→(wz.alloc (.cells #[.int .i64 B.1.kind,.int .i64 (k:Int),.slice (some ⟨b,o+k,none⟩) B.2 (cap-k),.int .i64 B.1.n,.string (S.B B.1.info),.string (S.B B.1.text),.bool B.1.loose,.slice ka kn kc] 110)).cell? ((⟨w1.heap.size+1,0,none⟩:Addr).add j)=some u):=hid (by
    intro wz hsz j u hj
    have ha:(⟨w1.heap.size+1,0,none⟩:Addr).add j=⟨wz.heap.size,j,none⟩:=by
     rw[hsz];simp only[Addr.add];split
     ·rename_i h;simp <;> omega
     ·simp <;> omega
    rw[ha]
    exact za0 (za1 _ _) j u (by rw[← hj];simp[six,S.Blk.zyg,S.Blk.zym,S.Blk.z1g,S.Blk.zxo,S.Blk.zys,S.Blk.zwm]))
   have hone:Hid (∀ u∈six (B.1.put (k:Int),.slice ka kn kc,(⟨some ⟨b,o+k,none⟩,B.2,cap-k⟩:Ext)),u.oneCell'=true):=hid (by
    intro u hu;simp[six] at hu;rcases hu with rfl|rfl|rfl|rfl|rfl|rfl|rfl|rfl <;> rfl)
   have hcnt:=hrelH.out.count
   have hrepH:=hid hrep
   have hb1H:=hid hb1
   have hsz1r:wr.heap.size≤w1.heap.size:=hb1.size
   clear hrep hb1 hown1
   have hck:¬ cap=k:=by omega
   have hJ0:(0:Int)≤(k:Int):=by omega
   have hJ1:(k:Int)≤(k:Int)+(B.2:Int):=by omega
   have hJ2:(k:Int)+(B.2:Int)≤(cap:Int):=by omega
   have hJ3:(0:Int)≤(k:Int)+(B.2:Int):=by omega
   have hwr4:IntKind.i64.wrap ((k:Int)+(B.2:Int))=(k:Int)+(B.2:Int):=by rw[IntKind.wrap_i64];omega
   have hton4:((k:Int)+(B.2:Int)).toNat=k+B.2:=by omega
   have hsub4:k+B.2-k=B.2:=by omega
   simp only[zdl]
   go_wp2_with fail
   go_region
   go_wp2_with (at_builtin;refine wpList_append_lies _ (by rfl) _ _ 77 (by rfl) w.heap.size 110 i0 (.agg #[.int .i64 0,.int .i64 0,.slice none 0 0,.int .i64 0,.string ⟨#[]⟩,.string ⟨#[]⟩,.bool false,.slice none 0 0]) 8 112 Tryz.underlying77 hi hz0 hz1 hz2 (by rfl) (by omega) (.slice a ps.length cp) ps.length (cellsOf ps) (by rfl) (hown2.out _ _ ((Below.refl _ w1).alloc (Nat.le_refl _) _)) ⟨w1.heap.size+1,0,none⟩ 1 1 (six (B.1.put (k:Int),.slice ka kn kc,(⟨some ⟨b,o+k,none⟩,B.2,cap-k⟩:Ext))) (by rfl) (by rfl) (hnew.out _ (by simp)) hone.out (by omega) (by unfold maxLen;omega) (by omega) (by simp;omega) (w1.heap.size+1+1) (by simp) ?_)
   intro g cap1 w2 hown3 hgrow hat hltg
   have hstepRel:=hid (hrelH.out.step hb1H.out (B:=B.1.put (k:Int)) (by rw[S.Blk.zxr];exact hrepH.out) hown3 ((((Below.refl _ w1).alloc (Nat.le_refl _) _).alloc (by simp) _).drew) (by simp) hgrow hat)
   have hbel2:Below w.heap.size w w2:=hstepRel.out.2.2
   have hrow2:=hid (hrow.below hbel2 hbw)
   clear hown3 hgrow hat hltg hbel2
   by_cases hkc2:k+B.2<cap
   ·skip
    have hG:S.za5 (dat (ss.drop (k+B.2)))≤ss.length-(k+B.2):=by have:=S.zep (dat (ss.drop (k+B.2)));rw[zai,List.length_drop] at this;exact this
    obtain ⟨gp,hgp⟩:∃ gp,S.za5 (dat (ss.drop (k+B.2)))=gp:=⟨_,rfl⟩
    have hCB:Hid (Calls Tryz.prog 84 #[.slice (some ⟨b,o+(k+B.2),none⟩) (ss.length-(k+B.2)) (cap-(k+B.2))] w2 fun e w'=>e = .returned (.int .i64 (gp:Nat))∧w2=w'):=hid (by
     have hrd:=hrow2.out.drop (k+B.2)
     have:=zdg b (o+(k+B.2)) (cap-(k+B.2)) (ss.drop (k+B.2)) w2 (by rw[List.length_drop];omega) hrd.row
     rw[List.length_drop,hgp] at this
     exact this.mono (fun e w' ⟨h1,h2⟩=>⟨h1,h2.symm⟩))
    rw[hgp] at hG
    have hstep:Hid (S.za2 (d+1) (dat ss)=((ps++[(B.1.put (k:Int),Value.slice ka kn kc,(⟨some ⟨b,o+k,none⟩,B.2,cap-k⟩:Ext))]).map Prod.fst++(S.rowFrom (S.za2 d) ss.length (f-1) ((dat ss).drop (k+B.2+gp))).1,(if 0<gp∧k+B.2+gp<ss.length then true else pb) || (S.rowFrom (S.za2 d) ss.length (f-1) ((dat ss).drop (k+B.2+gp))).2)):=hid (by
     rw[hrelH.out.spec]
     obtain ⟨f',hf'⟩:∃ f',f=f' + 1:=⟨f-1,by have:=hrelH.out.fuel;omega⟩
     have e1:((dat ss).drop k).drop B.2=dat (ss.drop (k+B.2)):=by rw[List.drop_drop,ziy]
     have e2:((dat ss).drop k).drop (B.2+gp)=(dat ss).drop (k+B.2+gp):=by rw[List.drop_drop];congr 1;omega
     have hln:((ss.length-((dat ss).drop k).length:Nat):Int)=(k:Int):=by rw[List.length_drop,zai];omega
     rw[hf',S.zek _ _ _ _ hneD.out,hBH.out,hln,e1,hgp,e2,Nat.add_sub_cancel]
     have e3:((dat ss).drop (k+B.2+gp)).isEmpty=decide (¬ k+B.2+gp<ss.length):=by
      rw[Bool.eq_iff_iff,List.isEmpty_iff,List.drop_eq_nil_iff,zai,decide_eq_true_iff];omega
     rw[e3]
     by_cases hc:0<gp∧k+B.2+gp<ss.length
     ·rw[if_pos hc,decide_eq_true hc.1,decide_eq_false (not_not_intro hc.2)];simp
     ·rw[if_neg hc]
      have:(decide (0<gp) && !decide (¬ k+B.2+gp<ss.length))=false:=by
       rw[Bool.and_eq_false_iff]
       by_cases h0:0<gp
       ·exact .inr (by have:¬ k+B.2+gp<ss.length:=fun h=>hc ⟨h0,h⟩;simp[this])
       ·exact .inl (decide_eq_false h0)
      rw[this];simp)
    clear hgp
    by_cases hg0:0<gp
    ·by_cases hkk:k+B.2+gp<ss.length
     ·rw[if_pos ⟨hg0,hkk⟩] at hstep
      go_wp2_with (go_at_call 84;refine hCB.out.mono ?_;rintro e w' ⟨rfl,rfl⟩)
      go_roundw
      case rel=>
       refine ⟨k+B.2+gp,f-1,ps++[(B.1.put (k:Int),Value.slice ka kn kc,(⟨some ⟨b,o+k,none⟩,B.2,cap-k⟩:Ext))],some ⟨g,0,none⟩,cap1,_,by omega,by rw[List.length_append];rfl,rfl,by go_num,?_⟩
       have hst:=hstepRel.out
       have e:(ps++[(B.1.put (k:Int),Value.slice ka kn kc,(⟨some ⟨b,o+k,none⟩,B.2,cap-k⟩:Ext))]).length=ps.length+1:=by simp
       have h1:=hst.2.1
       refine ⟨hstep.out,by have:=hrelH.out.fuel;omega,?_,hst.1,hst.2.2,by rw[e];omega⟩
       rw[e] at h1 ⊢;exact h1
      case measure=>simp[intOf];omega
     ·rw[if_neg (fun h=>hkk h.2)] at hstep
      go_wp2_with (go_at_call 84;refine hCB.out.mono ?_;rintro e w' ⟨rfl,rfl⟩)
      go_roundw
      case rel=>
       refine ⟨k+B.2+gp,f-1,ps++[(B.1.put (k:Int),Value.slice ka kn kc,(⟨some ⟨b,o+k,none⟩,B.2,cap-k⟩:Ext))],some ⟨g,0,none⟩,cap1,_,by omega,by rw[List.length_append];rfl,rfl,by go_num,?_⟩
       have hst:=hstepRel.out
       have e:(ps++[(B.1.put (k:Int),Value.slice ka kn kc,(⟨some ⟨b,o+k,none⟩,B.2,cap-k⟩:Ext))]).length=ps.length+1:=by simp
       have h1:=hst.2.1
       refine ⟨hstep.out,by have:=hrelH.out.fuel;omega,?_,hst.1,hst.2.2,by rw[e];omega⟩
       rw[e] at h1 ⊢;exact h1
      case measure=>simp[intOf];omega
    ·rw[if_neg (fun h=>hg0 h.1)] at hstep
     go_wp2_with (go_at_call 84;refine hCB.out.mono ?_;rintro e w' ⟨rfl,rfl⟩)
     go_roundw
     case rel=>
      refine ⟨k+B.2+gp,f-1,ps++[(B.1.put (k:Int),Value.slice ka kn kc,(⟨some ⟨b,o+k,none⟩,B.2,cap-k⟩:Ext))],some ⟨g,0,none⟩,cap1,_,by omega,by rw[List.length_append];rfl,rfl,by go_num,?_⟩
      have hst:=hstepRel.out
      have e:(ps++[(B.1.put (k:Int),Value.slice ka kn kc,(⟨some ⟨b,o+k,none⟩,B.2,cap-k⟩:Ext))]).length=ps.length+1:=by simp
      have h1:=hst.2.1
      refine ⟨hstep.out,by have:=hrelH.out.fuel;omega,?_,hst.1,hst.2.2,by rw[e];omega⟩
      rw[e] at h1 ⊢;exact h1
     case measure=>simp[intOf];omega
   ·have hle1:ss.length≤k+B.2:=by omega
    have hle3:k+B.2≤ss.length:=by omega
    obtain rfl:cap=k+B.2:=by omega
    have hCB:Hid (Calls Tryz.prog 84 #[.slice (some ⟨b,o,none⟩) 0 0] w2 fun e w'=>e = .returned (.int .i64 0)∧w2=w'):=hid (by
     have:=zdg b o 0 [] w2 (by simp) (fun i s h=>by simp at h)
     exact this.mono (fun e w' ⟨h1,h2⟩=>⟨h1,h2.symm⟩))
    have hstep:Hid (S.za2 (d+1) (dat ss)=((ps++[(B.1.put (k:Int),Value.slice ka kn kc,(⟨some ⟨b,o+k,none⟩,B.2,k+B.2-k⟩:Ext))]).map Prod.fst++(S.rowFrom (S.za2 d) ss.length (f-1) ((dat ss).drop (k+B.2))).1,pb || (S.rowFrom (S.za2 d) ss.length (f-1) ((dat ss).drop (k+B.2))).2)):=hid (by
     rw[hrelH.out.spec]
     obtain ⟨f',hf'⟩:∃ f',f=f' + 1:=⟨f-1,by have:=hrelH.out.fuel;omega⟩
     have e1:((dat ss).drop k).drop B.2=[]:=by rw[List.drop_drop];exact List.drop_eq_nil_of_le (by rw[zai];omega)
     have e2:(dat ss).drop (k+B.2)=[]:=List.drop_eq_nil_of_le (by rw[zai];omega)
     have hln:((ss.length-((dat ss).drop k).length:Nat):Int)=(k:Int):=by rw[List.length_drop,zai];omega
     rw[hf',S.zek _ _ _ _ hneD.out,hBH.out,hln,e1,e2,← List.drop_drop,e1]
     simp[S.za5])
    clear hkc2
    go_wp2_with (go_at_call 84;refine hCB.out.mono ?_;rintro e w' ⟨rfl,rfl⟩)
    go_roundw
    case rel=>
     refine ⟨k+B.2,f-1,ps++[(B.1.put (k:Int),Value.slice ka kn kc,(⟨some ⟨b,o+k,none⟩,B.2,k+B.2-k⟩:Ext))],some ⟨g,0,none⟩,cap1,_,by omega,by rw[List.length_append];rfl,rfl,by go_num,?_⟩
     have hst:=hstepRel.out
     have e:(ps++[(B.1.put (k:Int),Value.slice ka kn kc,(⟨some ⟨b,o+k,none⟩,B.2,k+B.2-k⟩:Ext))]).length=ps.length+1:=by simp
     have h1:=hst.2.1
     refine ⟨hstep.out,by have:=hrelH.out.fuel;omega,?_,hst.1,hst.2.2,by rw[e];omega⟩
     rw[e] at h1 ⊢;exact h1
    case measure=>simp[intOf];omega
  ·have hkl:k=ss.length:=by omega
   have hfin:=hrelH.out.spec
   rw[List.drop_eq_nil_of_le (by rw[zai];omega),S.zeb,List.append_nil,Bool.or_false] at hfin
   have hfinH:=hid hfin
   have hrepF:Hid (Rep wr (fun x=>w.heap.size≤x∧x<wr.heap.size) (.slice a ps.length cp) (ps.map Prod.fst)):=hid (zkv hrelH.out.own (fun g hg=>hrelH.out.own.lt g hg) (fun i p hp=>(hrelH.out.kids i p hp).move (fun x hx=>⟨hx.1,hx.2.1⟩) (fun _ _=>rfl)))
   clear hfin hkl
   go_wp2
   go_ret2
   refine ⟨.slice a ps.length cp,?_,?_,hrelH.out.below⟩
   ·rw[hfinH.out];rfl
   ·rw[hfinH.out];exact hrepF.out
end Go.Proofs.YtlojgpkajkedeaaGreatDoor
namespace Go.Proofs.YtlojgpkajkedeaaGreatDoor
open Go
namespace S
theorem zlb (l:List UInt8) (h:shallow l≠[]):indent l+(shallow l).length=l.length:=by
 unfold shallow at *;split at h
 ·exact absurd rfl h
 ·rename_i h4;rw[if_neg h4,List.length_drop];have:=zbt l;omega
theorem zl2 (l:List UInt8):(item l).zaa≤l.length+1:=by
 by_cases h:za6 (shallow l)=0∨zb3 (shallow l) (za6 (shallow l))=false
 ·rw[zlj _ h];simp
 ·rw[zim _ h]
  have h1:=zfx (shallow l)
  have h2:=zbt ((shallow l).drop (za6 (shallow l)))
  rw[List.length_drop] at h2
  have hne:shallow l≠[]:=by intro e;apply h;left;rw[e];rfl
  have h3:=zlb l hne
  simp only[];split <;> omega
theorem zru (l:List UInt8) (h:(item l).ok=true):1≤(item l).zaa∧0<l.length:=by
 by_cases hn:za6 (shallow l)=0∨zb3 (shallow l) (za6 (shallow l))=false
 ·rw[zlj _ hn] at h;simp at h
 ·rw[zim _ hn]
  have hne:shallow l≠[]:=by intro e;apply hn;left;rw[e];rfl
  have h3:=zlb l hne
  have h4:0<(shallow l).length:=List.length_pos_iff.2 hne
  have h5:za6 (shallow l)≠0:=fun e=>hn (.inl e)
  exact ⟨by simp only[];omega,by omega⟩
theorem zhk (m:Nat) (r:List (List UInt8)) (n:Nat):bytes ((r.take n).map (fun l=>l.drop m))≤bytes r:=by
 induction r generalizing n with
 | nil=>simp[bytes]
 | cons x r ih=>cases n with
  | zero=>simp[bytes]
  | succ n=>have:=ih n;simp only[List.take_succ_cons,List.map_cons,bytes,List.sum_cons,List.length_drop] at *;omega
theorem zu8 (l:List UInt8) (r:List (List UInt8)) (h:(item l).ok=true):bytes (zae (item l) (l::r))<bytes (l::r):=by
 obtain ⟨h1,h2⟩:=zru l h
 unfold zae;split
 ·simp only[bytes,List.map_cons,List.sum_cons,List.map_nil,List.sum_nil,List.length_nil];omega
 ·obtain ⟨n,hn⟩:∃ n,zay (item l).zaa (l::r)=n+1:=⟨zay (item l).zaa (l::r)-1,by have:=zdb (item l).zaa (l::r);omega⟩
  have h3:=zhk (item l).zaa r n
  rw[hn,List.take_succ_cons,List.map_cons]
  simp only[bytes,List.map_cons,List.sum_cons,List.length_drop] at *;omega
theorem zf7 (kind:UInt8) (l:List UInt8) (r:List (List UInt8)) (h:(zas kind (l::r)).ok=true):zas kind (l::r)=item l∧(item l).kind=kind∧(item l).ok=true:=by
 unfold zas at *
 simp only[] at *
 split at h
 ·simp at h
 ·rename_i hr
  simp at h
  rw[if_neg hr]
  refine ⟨?_,h.2,h.1⟩
  cases hi:item l with
  | mk a b c d e=>rw[hi] at h;simp at h;simp[h]
end S
end Go.Proofs.YtlojgpkajkedeaaGreatDoor
