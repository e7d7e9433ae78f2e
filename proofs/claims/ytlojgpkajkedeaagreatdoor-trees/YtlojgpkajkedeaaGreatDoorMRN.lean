import Derived.Test.YtlojgpkajkedeaaGreatDoorMStr5
import Derived.Test.YtlojgpkajkedeaaGreatDoorMRJ
import Derived.Test.YtlojgpkajkedeaaGreatDoorME24
namespace Go.Proofs.YtlojgpkajkedeaaGreatDoor
open Go.RowKit
def LOK (C:List UInt8→List Rn→Prop) (d:Nat):Prop:=∀ (b o cap:Nat) (p0:Ln) (ts:List Ln) (z:Int) (w:World) (m:S.Mark),ts.length+1≤cap→b<w.heap.size→RowL w b o (p0::ts)→Num z (p0::ts)→S.item p0.1.data.toList=m→m.ok=true→bytes (datL (p0::ts))≤d →
 Calls Tryz.prog 98 #[.slice (some ⟨b,o,none⟩) (ts.length+1) cap,.agg #[.int .u8 (m.kind.toNat:Int),.int .i64 m.number,.bool m.empty,.int .i64 (m.zaa:Nat)]] w fun e w'=>∃ kv ns,e = .returned (.tuple #[zpi (.nd 6 m.number [] (zcq 6 [] (S.zbg (S.za2 d) m (datL (p0::ts))).1.loose) 0 ns) kv,.int .i64 ((S.zbg (S.za2 d) m (datL (p0::ts))).2:Nat)])∧RepN w' (fun x=>w.heap.size≤x∧x<w'.heap.size) kv ns∧Hid (MatL C z (S.zbg (S.za2 d) m (datL (p0::ts))).1.kids ns)∧Below w.heap.size w w'
def z0r (C:List UInt8→List Rn→Prop) (z:Int) (R:S.Blk × Nat) (w:World) (e:Ending) (w':World):Prop:=∃ kv ns,e = .returned (.tuple #[zpi (.nd R.1.kind R.1.n R.1.info (zcq R.1.kind R.1.text R.1.loose) 0 ns) kv,.int .i64 (R.2:Nat)])∧RepN w' (fun x=>w.heap.size≤x∧x<w'.heap.size) kv ns∧Hid (KidB C z R.1 ns)∧Below w.heap.size w w'
theorem S.zvf (l:List UInt8) (h:(S.fence l).ok=true):1≤(S.fence l).width∧(S.fence l).ind=S.indent l:=by
 cases hsh:S.shallow l with
 | nil=>rw[S.zku l hsh] at h;simp at h
 | cons c t=>
  by_cases h1:c=96∨c=126
  ·rw[S.zi6 l c t hsh h1]
   exact ⟨by simp only[S.cnt];simp,rfl⟩
  ·rw[S.zoo l c t hsh (fun e=>h1 (.inl e)) (fun e=>h1 (.inr e))] at h;simp at h
def zu9 (C:List UInt8→List Rn→Prop) (z:Int) (B:S.Blk) (WM:World) (K n:Int) (inf tx:ByteArray) (sz:Int) (e:Ending) (w2:World):Prop:=∃ ka kn kc ns,e = .returned (.tuple #[.agg #[.int .i64 0,.int .i64 K,.int .i64 n,.string inf,.string tx,.int .i64 0,.slice ka kn kc],.int .i64 sz])∧Hid (RepN w2 (fun x=>WM.heap.size≤x∧x<w2.heap.size) (.slice ka kn kc) ns∧KidB C z B ns∧Below WM.heap.size WM w2)
def BIs (R:S.Blk × Nat) (K n:Int) (inf tx:ByteArray) (sz:Int):Prop:=(∀ kv ns,zpi (.nd R.1.kind R.1.n R.1.info (zcq R.1.kind R.1.text R.1.loose) 0 ns) kv = .agg #[.int .i64 0,.int .i64 K,.int .i64 n,.string inf,.string tx,.int .i64 0,kv])∧(R.2:Int)=sz
set_option maxRecDepth 100000 in
set_option maxHeartbeats 4000000 in
theorem zuh (C:List UInt8→List Rn→Prop) (d:Nat) (hW:WOK C) (hR:ROK C d) (hL:LOK C d) (b o cap:Nat) (p0:Ln) (ts:List Ln) (z:Int) (w:World) (hcap:ts.length+1≤cap) (hrow:RowL w b o (p0::ts)) (hnum:Num z (p0::ts)) (hbw:b<w.heap.size) (hnb:S.blank p0.1.data.toList=false) (hd:bytes (datL (p0::ts))≤d) :
  Calls Tryz.prog 68 #[.slice (some ⟨b,o,none⟩) (ts.length+1) cap] w (z0r C z (S.zah (S.za2 d) (datL (p0::ts))) w):=by
 obtain ⟨W0,hW0,hb0,hz0,hx0⟩:=zma w
 have hlen:=hrow.len
 simp only[List.length_cons] at hlen
 have hrow0:=hrow.below hb0 hbw
 have hsz0:=hrow.size 0 p0 rfl
 have hdc:datL (p0::ts)=p0.1.data.toList::datL ts:=rfl
 obtain ⟨RB,hRB⟩:∃ RB,S.zah (S.za2 d) (datL (p0::ts))=RB:=⟨_,rfl⟩
 rw[hRB]
 have hc0:W0.cell? ⟨b,o,none⟩=some (.string p0.1):=by simpa using (hrow0.1 0 p0 rfl).1
 have hRu:Hid (Calls Tryz.prog 89 #[.string p0.1] W0 fun e w'=>e = .returned (.bool (S.zbu p0.1.data.toList))∧W0=w'):=hid ((zks p0.1 W0 hsz0).mono (fun e w' ⟨h1,h2⟩=>⟨h1,h2.symm⟩))
 have hTi:Hid (Calls Tryz.prog 90 #[.string p0.1] W0 fun e w'=>∃ X:ByteArray,e = .returned (.tuple #[.int .i64 (S.zau p0.1.data.toList:Nat),.string X])∧Hid (0<S.zau p0.1.data.toList→X=S.B (S.zaj p0.1.data.toList))∧W0=w'):=hid ((znf p0.1 W0 hsz0).mono (fun e w' ⟨X,h1,h2,h3⟩=>⟨X,h1,h2,h3.symm⟩))
 have hFe:Hid (Calls Tryz.prog 91 #[.string p0.1] W0 fun e w'=>∃ (m k:Int) (x:ByteArray),e = .returned (.tuple #[.int .u8 m,.int .i64 k,.string x])∧Hid (zfe p0.1.data.toList m k x)∧W0=w'):=hid ((zn8 p0.1 W0 hsz0).mono (fun e w' ⟨m,k,x,h1,h2,h3⟩=>⟨m,k,x,h1,h2,h3.symm⟩))
 have hQu:Hid (Calls Tryz.prog 92 #[.string p0.1] W0 fun e w'=>e = .returned (.bool (S.zar p0.1.data.toList))∧W0=w'):=hid ((zfr p0.1 W0 hsz0).mono (fun e w' ⟨h1,h2⟩=>⟨h1,h2.symm⟩))
 have hIt:Hid (Calls Tryz.prog 93 #[.string p0.1] W0 (zvq p0.1.data.toList W0)):=hid (zio p0.1 W0 hsz0)
 have hIn:Hid (∀ wx,Calls Tryz.prog 88 #[.string p0.1] wx fun e w'=>e = .returned (.int .i64 (S.indent p0.1.data.toList:Nat))∧wx=w'):=hid (fun wx=>(zc3 p0.1 wx hsz0).mono (fun e w' ⟨h1,h2⟩=>⟨h1,h2.symm⟩))
 obtain ⟨x0,hx0d⟩:∃ x0,p0.1.data.toList=x0:=⟨_,rfl⟩
 rw[hx0d] at hRu hTi hFe hQu hIt hIn hdc hnb
 obtain ⟨ru,hru⟩:∃ ru,S.zbu x0=ru:=⟨_,rfl⟩
 obtain ⟨lv,hlv⟩:∃ lv,S.zau x0=lv:=⟨_,rfl⟩
 obtain ⟨q,hq⟩:∃ q,S.zar x0=q:=⟨_,rfl⟩
 obtain ⟨ind,hind⟩:∃ ind,S.indent x0=ind:=⟨_,rfl⟩
 rw[hru] at hRu
 rw[hlv] at hTi
 obtain ⟨lvi,hlvi⟩:∃ lvi:Int,(lv:Int)=lvi:=⟨_,rfl⟩
 rw[hlvi] at hTi
 rw[hq] at hQu
 rw[hind] at hIn
 have hspec:Hid (RB=if 4≤ind then S.zbb (datL (p0::ts)) else if ru=true then (.mk 4 0 [] [] false [],1) else if 0<lv then (.mk 2 lv [] (S.zaj x0) false [],1) else if (S.fence x0).ok=true then S.zcy (S.fence x0) (datL (p0::ts)) else if q=true then (.mk 5 0 [] [] false (S.za2 d (S.zad (datL (p0::ts)))).1,(S.zad (datL (p0::ts))).length) else if (S.item x0).ok=true then S.zbg (S.za2 d) (S.item x0) (datL (p0::ts)) else S.za8 (datL (p0::ts))):=hid (by
  rw[← hRB,← hru,← hlv,← hq,← hind,hdc];rfl)
 have hruH:=hid hru
 have hlvH:=hid hlv
 have hlviH:=hid hlvi
 have hqH:=hid hq
 have hindH:=hid hind
 have hrowH:=hid hrow0
 have hnumH:=hid hnum
 have hWH:=hid hW
 have hRH:=hid hR
 have hLH:=hid hL
 have hx0H:=hid hx0
 have hb0H:=hid hb0
 have hW0H:=hid hW0
 have hdH:=hid hd
 have hnbH:=hid hnb
 have hdcH:=hid hdc
 have hx0dH:=hid hx0d
 have hbW0:b<W0.heap.size:=by omega
 have hwW0:w.heap.size<W0.heap.size:=by omega
 obtain ⟨s0,z0⟩:=p0
 dsimp only at hc0 hRu hTi hFe hQu hIt hIn hsz0
 clear hru hlv hlvi hq hind hrow0 hrow hnum hW hR hL hx0 hb0 hW0 hz0 hd hnb hdc hx0d hRB
 go_enter Tryz.func68,Tryz.ntmps68
 go_upto_region 1 with fail
 rw[← hW0H.out]
 go_wp2_with fail
 refine hRu.out.mono ?_
 rintro e w' ⟨rfl,rfl⟩
 go_wp2_with fail
 refine hTi.out.mono ?_
 rintro e w' ⟨X,rfl,hX,rfl⟩
 go_wp2_with fail
 refine hFe.out.mono ?_
 rintro e w' ⟨fm,fk,fx,rfl,hF,rfl⟩
 go_wp2_with fail
 refine hQu.out.mono ?_
 rintro e w' ⟨rfl,rfl⟩
 go_wp2_with fail
 refine hIt.out.mono ?_
 rintro e w6 ⟨ik,inn,ib,img,rfl,hIs,hb6⟩
 obtain ⟨iok,hiok⟩:∃ iok,(S.item x0).ok=iok:=⟨_,rfl⟩
 rw[hiok]
 have hb6H:=hid hb6
 have hiokH:=hid hiok
 clear hiok hb6
 go_upto_region 7 with fail
 obtain ⟨WM,hWM⟩:∃ WM,WM=w6.alloc (.cells #[.int .u8 ik,.int .i64 inn,.bool ib,.int .i64 img] 150):=⟨_,rfl⟩
 rw[← hWM]
 have hb0M:Below W0.heap.size W0 WM:=by rw[hWM];exact hb6H.out.alloc hb6H.out.size _
 have hxmk:WM.heap[w6.heap.size]?=some (.cells #[.int .u8 ik,.int .i64 inn,.bool ib,.int .i64 img] 150 (0,0)):=by rw[hWM];exact za1 _ _
 have m0:WM.cell? ⟨w6.heap.size,0,none⟩=some (.int .u8 ik):=za0 hxmk 0 _ rfl
 have m1:WM.cell? ⟨w6.heap.size,1,none⟩=some (.int .i64 inn):=za0 hxmk 1 _ rfl
 have m2:WM.cell? ⟨w6.heap.size,2,none⟩=some (.bool ib):=za0 hxmk 2 _ rfl
 have m3:WM.cell? ⟨w6.heap.size,3,none⟩=some (.int .i64 img):=za0 hxmk 3 _ rfl
 have hxM:=hid ((hb0M.block w.heap.size hwW0).trans hx0H.out)
 have hbM:=hid (hb0H.out.trans (hb0M.mono (Nat.le_of_lt hwW0)))
 have hwM:w.heap.size<WM.heap.size:=Nat.lt_of_lt_of_le hwW0 hb0M.size
 have hbWM:b<WM.heap.size:=Nat.lt_of_lt_of_le hbW0 hb0M.size
 have hrowM:=hid (hrowH.out.below hb0M hbW0)
 clear hWM hb0M hxmk hrowH hb0H hx0H hW0H hb6H hRu hTi hFe hQu hIt hc0 hwW0 hbW0
 by_cases h4:4≤ind
 ·have hR1:RB=S.zbb (datL (((s0,z0):Ln)::ts)):=by rw[hspec.out,if_pos h4]
  have hCo:=ztv b o cap (((s0,z0):Ln)::ts) WM hcap hrowM.out hbWM ⟨_,rfl,by have:=hnbH.out;rw[← hx0dH.out] at this;exact this,by rw[show S.indent ((s0,z0):Ln).1.data.toList=ind from by rw[hx0dH.out,hindH.out]];exact h4⟩
  obtain ⟨K,n,inf,tx,sz,hE0,hP0⟩:∃ K n inf tx sz,BIs RB K n inf tx sz∧Calls Tryz.prog 94 #[.slice (some ⟨b,o,none⟩) (ts.length+1) cap] WM (zu9 C z RB.1 WM K n inf tx sz):=by
   refine ⟨RB.1.kind,RB.1.n,S.B RB.1.info,S.B (zcq RB.1.kind RB.1.text RB.1.loose),(RB.2:Int),⟨fun kv ns=>rfl,rfl⟩,hCo.mono ?_⟩
   rintro e w2 ⟨rfl,hb2⟩
   refine ⟨none,0,0,[],?_,hid ⟨.nil,?_,hb2⟩⟩
   ·rw[hR1];rfl
   ·rw[hR1];simp[KidB,S.zbb,S.Blk.mk,S.Blk.kind,S.Blk.kids,MatL]
  have hE:=hid hE0
  have hP:=hid hP0
  have hJ:(4:Int)≤(ind:Int):=by omega
  clear hE0 hP0 hCo hR1 h4
  go_wp2_with fail
  refine (hIn.out _).mono ?_
  rintro e w' ⟨rfl,rfl⟩
  go_wp2_with fail
  refine hP.out.mono ?_
  rintro e w2 ⟨ka,kn,kc,ns,rfl,hU⟩
  have hx2:=(hU.out.2.2.block w.heap.size hwM).trans hxM.out
  have hw2:w.heap.size<w2.heap.size:=Nat.lt_of_lt_of_le hwM hU.out.2.2.size
  have d0:w2.cell? ⟨w.heap.size,0,none⟩=some (.int .i64 0):=za0 hx2 0 _ rfl
  have d1:w2.cell? ⟨w.heap.size,1,none⟩=some (.int .i64 0):=za0 hx2 1 _ rfl
  have d2:w2.cell? ⟨w.heap.size,2,none⟩=some (.int .i64 0):=za0 hx2 2 _ rfl
  have d3:w2.cell? ⟨w.heap.size,3,none⟩=some (.string ⟨#[]⟩):=za0 hx2 3 _ rfl
  have d4:w2.cell? ⟨w.heap.size,4,none⟩=some (.string ⟨#[]⟩):=za0 hx2 4 _ rfl
  have d5:w2.cell? ⟨w.heap.size,5,none⟩=some (.int .i64 0):=za0 hx2 5 _ rfl
  have d6:w2.cell? ⟨w.heap.size,6,none⟩=some (.slice none 0 0):=za0 hx2 6 _ rfl
  have g0:=za7 hx2
  have hzz:=hid (set7 hx2 (.int .i64 0) (.int .i64 K) (.int .i64 n) (.string inf) (.string tx) (.int .i64 0) (.slice ka kn kc))
  have hbw2:Below w.heap.size w w2:=hbM.out.trans (hU.out.2.2.mono (Nat.le_of_lt hwM))
  have hbz:=hid (zb7 (N:=w.heap.size) hbw2 (Nat.le_refl _) (.int .i64 0) (.int .i64 K) (.int .i64 n) (.string inf) (.string tx) (.int .i64 0) (.slice ka kn kc))
  have hrz:=hid (zcs hU.out.1 (N:=w.heap.size) (fun x hx e=>by have:=hx.1;omega) (.int .i64 0) (.int .i64 K) (.int .i64 n) (.string inf) (.string tx) (.int .i64 0) (.slice ka kn kc))
  clear hx2 hbw2
  go_wp2
  refine bodyPost_ret (v:=.tuple #[.agg #[.int .i64 0,.int .i64 K,.int .i64 n,.string inf,.string tx,.int .i64 0,.slice ka kn kc],.int .i64 sz]) (by have z0:=za0 hzz.out 0 _ rfl;have z1:=za0 hzz.out 1 _ rfl;have z2:=za0 hzz.out 2 _ rfl;have z3:=za0 hzz.out 3 _ rfl;have z4:=za0 hzz.out 4 _ rfl;have z5:=za0 hzz.out 5 _ rfl;have z6:=za0 hzz.out 6 _ rfl;simp[results,Tryz.results68,go_sem,z0,z1,z2,z3,z4,z5,z6]) rfl ?_
  exact ⟨.slice ka kn kc,ns,by rw[hE.out.1,hE.out.2],hrz.out.move (fun x hx=>⟨by have:=hx.1;omega,by rw[zhb];exact hx.2⟩) (fun _ _=>rfl),hid hU.out.2.1,hbz.out⟩
 have h4H:=hid h4
 have hJ:¬ (4:Int)≤(ind:Int):=by omega
 clear h4
 cases ru
 case true=>
  have hR1:RB=(.mk 4 0 [] [] false [],1):=by rw[hspec.out,if_neg h4H.out,if_pos rfl]
  have hkid:Hid (KidB C z RB.1 []):=hid (by rw[hR1];unfold KidB;rw[if_neg (by show ¬ ((4:Int)=1∨(4:Int)=2);omega)];exact trivial)
  have hval:Hid (∀ kv,zpi (.nd RB.1.kind RB.1.n RB.1.info (zcq RB.1.kind RB.1.text RB.1.loose) 0 []) kv = .agg #[.int .i64 0,.int .i64 4,.int .i64 0,.string ⟨#[]⟩,.string ⟨#[]⟩,.int .i64 0,kv]):=hid (fun kv=>by rw[hR1];rfl)
  have hval2:Hid ((RB.2:Int)=1):=hid (by rw[hR1];rfl)
  clear hR1
  go_wp2_with fail
  refine (hIn.out _).mono ?_
  rintro e w' ⟨rfl,rfl⟩
  go_upto_region 10 with fail
  have hx2:=hxM.out
  have d0:WM.cell? ⟨w.heap.size,0,none⟩=some (.int .i64 0):=za0 hx2 0 _ rfl
  have d1:WM.cell? ⟨w.heap.size,1,none⟩=some (.int .i64 0):=za0 hx2 1 _ rfl
  have d2:WM.cell? ⟨w.heap.size,2,none⟩=some (.int .i64 0):=za0 hx2 2 _ rfl
  have d3:WM.cell? ⟨w.heap.size,3,none⟩=some (.string ⟨#[]⟩):=za0 hx2 3 _ rfl
  have d4:WM.cell? ⟨w.heap.size,4,none⟩=some (.string ⟨#[]⟩):=za0 hx2 4 _ rfl
  have d5:WM.cell? ⟨w.heap.size,5,none⟩=some (.int .i64 0):=za0 hx2 5 _ rfl
  have d6:WM.cell? ⟨w.heap.size,6,none⟩=some (.slice none 0 0):=za0 hx2 6 _ rfl
  have g0:=za7 hx2
  have hzz:=hid (set7 hx2 (.int .i64 0) (.int .i64 4) (.int .i64 0) (.string ⟨#[]⟩) (.string ⟨#[]⟩) (.int .i64 0) (.slice none 0 0))
  have hbz:=hid (zb7 (N:=w.heap.size) hbM.out (Nat.le_refl _) (.int .i64 0) (.int .i64 4) (.int .i64 0) (.string ⟨#[]⟩) (.string ⟨#[]⟩) (.int .i64 0) (.slice none 0 0))
  clear hx2
  go_wp2
  refine bodyPost_ret (v:=.tuple #[.agg #[.int .i64 0,.int .i64 4,.int .i64 0,.string ⟨#[]⟩,.string ⟨#[]⟩,.int .i64 0,.slice none 0 0],.int .i64 1]) (by have z0:=za0 hzz.out 0 _ rfl;have z1:=za0 hzz.out 1 _ rfl;have z2:=za0 hzz.out 2 _ rfl;have z3:=za0 hzz.out 3 _ rfl;have z4:=za0 hzz.out 4 _ rfl;have z5:=za0 hzz.out 5 _ rfl;have z6:=za0 hzz.out 6 _ rfl;simp[results,Tryz.results68,go_sem,z0,z1,z2,z3,z4,z5,z6]) rfl ?_
  exact ⟨.slice none 0 0,[],by rw[hval.out,hval2.out],.nil,hkid,hbz.out⟩
 by_cases hl:0<lv
 ·have hR1:RB=(.mk 2 lv [] (S.zaj x0) false [],1):=by rw[hspec.out,if_neg h4H.out,if_neg (by simp),if_pos hl]
  have hXe:=hX.out hl
  have hle:(S.zaj x0).length≤1000000:=by have:=S.zey x0;rw[← hx0dH.out,S.length_data] at this;rw[← hx0dH.out];exact Nat.le_trans this hsz0
  have hWi:=hWH.out X WM (by rw[hXe,S.zbc];exact hle)
  have hXd:X.data.toList=S.zaj x0:=by rw[hXe,S.zcn]
  rw[hXd] at hWi
  obtain ⟨K,n,inf,tx,sz,hE0,hK⟩:∃ (K n:Int) (inf tx:ByteArray) (sz:Int),BIs RB K n inf tx sz∧(K=2∧n=lvi∧inf=⟨#[]⟩∧tx=⟨#[]⟩∧sz=1):=
   ⟨2,lvi,⟨#[]⟩,⟨#[]⟩,1,⟨fun kv ns=>by rw[hR1,← hlviH.out];rfl,by rw[hR1];rfl⟩,rfl,rfl,rfl,rfl,rfl⟩
  obtain ⟨rfl,rfl,rfl,rfl,rfl⟩:=hK
  have hE:=hid hE0
  have hP:Hid (Calls Tryz.prog 95 #[.string X] WM fun e w2=>∃ ka kn kc ns,e = .returned (.slice ka kn kc)∧Hid (RepN w2 (fun x=>WM.heap.size≤x∧x<w2.heap.size) (.slice ka kn kc) ns∧KidB C z RB.1 ns∧Below WM.heap.size WM w2)):=hid (hWi.mono (by
   rintro e w2 ⟨kv,ns,rfl,hrep,hM,hb2⟩
   obtain ⟨ka,kn,kc,rfl⟩:=hrep.form
   refine ⟨ka,kn,kc,ns,rfl,hid ⟨hrep,?_,hb2⟩⟩
   rw[hR1];unfold KidB;rw[if_pos (by right;rfl)];exact hM.out))
  have hJl:(0:Int)<n:=by have:=hlviH.out;omega
  clear hE0 hWi hXe hXd hle hR1 hl
  go_wp2_with fail
  refine (hIn.out _).mono ?_
  rintro e w' ⟨rfl,rfl⟩
  go_wp2_with fail
  refine hP.out.mono ?_
  rintro e w2 ⟨ka,kn,kc,ns,rfl,hU⟩
  have hx2:=(hU.out.2.2.block w.heap.size hwM).trans hxM.out
  have hw2:w.heap.size<w2.heap.size:=Nat.lt_of_lt_of_le hwM hU.out.2.2.size
  have d0:w2.cell? ⟨w.heap.size,0,none⟩=some (.int .i64 0):=za0 hx2 0 _ rfl
  have d1:w2.cell? ⟨w.heap.size,1,none⟩=some (.int .i64 0):=za0 hx2 1 _ rfl
  have d2:w2.cell? ⟨w.heap.size,2,none⟩=some (.int .i64 0):=za0 hx2 2 _ rfl
  have d3:w2.cell? ⟨w.heap.size,3,none⟩=some (.string ⟨#[]⟩):=za0 hx2 3 _ rfl
  have d4:w2.cell? ⟨w.heap.size,4,none⟩=some (.string ⟨#[]⟩):=za0 hx2 4 _ rfl
  have d5:w2.cell? ⟨w.heap.size,5,none⟩=some (.int .i64 0):=za0 hx2 5 _ rfl
  have d6:w2.cell? ⟨w.heap.size,6,none⟩=some (.slice none 0 0):=za0 hx2 6 _ rfl
  have g0:=za7 hx2
  have hzz:=hid (set7 hx2 (.int .i64 0) (.int .i64 2) (.int .i64 n) (.string ⟨#[]⟩) (.string ⟨#[]⟩) (.int .i64 0) (.slice ka kn kc))
  have hbw2:Below w.heap.size w w2:=hbM.out.trans (hU.out.2.2.mono (Nat.le_of_lt hwM))
  have hbz:=hid (zb7 (N:=w.heap.size) hbw2 (Nat.le_refl _) (.int .i64 0) (.int .i64 2) (.int .i64 n) (.string ⟨#[]⟩) (.string ⟨#[]⟩) (.int .i64 0) (.slice ka kn kc))
  have hrz:=hid (zcs hU.out.1 (N:=w.heap.size) (fun x hx e=>by have:=hx.1;omega) (.int .i64 0) (.int .i64 2) (.int .i64 n) (.string ⟨#[]⟩) (.string ⟨#[]⟩) (.int .i64 0) (.slice ka kn kc))
  clear hx2 hbw2
  go_wp2
  refine bodyPost_ret (v:=.tuple #[.agg #[.int .i64 0,.int .i64 2,.int .i64 n,.string ⟨#[]⟩,.string ⟨#[]⟩,.int .i64 0,.slice ka kn kc],.int .i64 1]) (by have z0:=za0 hzz.out 0 _ rfl;have z1:=za0 hzz.out 1 _ rfl;have z2:=za0 hzz.out 2 _ rfl;have z3:=za0 hzz.out 3 _ rfl;have z4:=za0 hzz.out 4 _ rfl;have z5:=za0 hzz.out 5 _ rfl;have z6:=za0 hzz.out 6 _ rfl;simp[results,Tryz.results68,go_sem,z0,z1,z2,z3,z4,z5,z6]) rfl ?_
  exact ⟨.slice ka kn kc,ns,by rw[hE.out.1,hE.out.2],hrz.out.move (fun x hx=>⟨by have:=hx.1;omega,by rw[zhb];exact hx.2⟩) (fun _ _=>rfl),hid hU.out.2.1,hbz.out⟩
 have hlH:=hid hl
 have hJl:¬ (0:Int)<lvi:=by have:=hlviH.out;omega
 clear hl
 by_cases hf:(S.fence x0).ok=true
 ·have hR1:RB=S.zcy (S.fence x0) (datL (((s0,z0):Ln)::ts)):=by rw[hspec.out,if_neg h4H.out,if_neg (by simp),if_neg hlH.out,if_pos hf]
  have hF1:=hF.out
  unfold zfe at hF1
  rw[if_pos hf] at hF1
  obtain ⟨⟨_,hk2⟩,rfl,rfl,rfl⟩:=hF1
  have hfp:=S.zvf x0 hf
  have hFn:=zr5 b o cap ((s0,z0):Ln) ts (S.fence x0).mark (S.fence x0).width (S.B (S.fence x0).info) WM hrowM.out hbWM hfp.1 (by omega)
  obtain ⟨K,n,inf,tx,sz,hE0,hP0⟩:∃ K n inf tx sz,BIs RB K n inf tx sz∧Calls Tryz.prog 96 #[.slice (some ⟨b,o,none⟩) (ts.length+1) cap,.int .u8 ((S.fence x0).mark.toNat:Int),.int .i64 ((S.fence x0).width:Int),.string (S.B (S.fence x0).info)] WM (zu9 C z RB.1 WM K n inf tx sz):=by
   refine ⟨RB.1.kind,RB.1.n,S.B RB.1.info,S.B (zcq RB.1.kind RB.1.text RB.1.loose),(RB.2:Int),⟨fun kv ns=>rfl,rfl⟩,hFn.mono ?_⟩
   rintro e w2 ⟨rfl,hb2⟩
   refine ⟨none,0,0,[],?_,hid ⟨.nil,?_,hb2⟩⟩
   ·rw[hR1];unfold S.zcy;rw[zaq,hfp.2,hdcH.out,List.tail_cons,show S.indent ((s0,z0):Ln).1.data.toList=S.indent x0 from by rw[hx0dH.out]];rfl
   ·rw[hR1];simp[KidB,S.zcy,S.Blk.mk,S.Blk.kind,S.Blk.kids,MatL]
  have hE:=hid hE0
  have hP:=hid hP0
  have hJf:(0:Int)<((S.fence x0).width:Int):=by omega
  clear hE0 hP0 hFn hR1 hf hk2 hfp hF
  go_wp2_with fail
  refine (hIn.out _).mono ?_
  rintro e w' ⟨rfl,rfl⟩
  go_wp2_with fail
  refine hP.out.mono ?_
  rintro e w2 ⟨ka,kn,kc,ns,rfl,hU⟩
  have hx2:=(hU.out.2.2.block w.heap.size hwM).trans hxM.out
  have hw2:w.heap.size<w2.heap.size:=Nat.lt_of_lt_of_le hwM hU.out.2.2.size
  have d0:w2.cell? ⟨w.heap.size,0,none⟩=some (.int .i64 0):=za0 hx2 0 _ rfl
  have d1:w2.cell? ⟨w.heap.size,1,none⟩=some (.int .i64 0):=za0 hx2 1 _ rfl
  have d2:w2.cell? ⟨w.heap.size,2,none⟩=some (.int .i64 0):=za0 hx2 2 _ rfl
  have d3:w2.cell? ⟨w.heap.size,3,none⟩=some (.string ⟨#[]⟩):=za0 hx2 3 _ rfl
  have d4:w2.cell? ⟨w.heap.size,4,none⟩=some (.string ⟨#[]⟩):=za0 hx2 4 _ rfl
  have d5:w2.cell? ⟨w.heap.size,5,none⟩=some (.int .i64 0):=za0 hx2 5 _ rfl
  have d6:w2.cell? ⟨w.heap.size,6,none⟩=some (.slice none 0 0):=za0 hx2 6 _ rfl
  have g0:=za7 hx2
  have hzz:=hid (set7 hx2 (.int .i64 0) (.int .i64 K) (.int .i64 n) (.string inf) (.string tx) (.int .i64 0) (.slice ka kn kc))
  have hbw2:Below w.heap.size w w2:=hbM.out.trans (hU.out.2.2.mono (Nat.le_of_lt hwM))
  have hbz:=hid (zb7 (N:=w.heap.size) hbw2 (Nat.le_refl _) (.int .i64 0) (.int .i64 K) (.int .i64 n) (.string inf) (.string tx) (.int .i64 0) (.slice ka kn kc))
  have hrz:=hid (zcs hU.out.1 (N:=w.heap.size) (fun x hx e=>by have:=hx.1;omega) (.int .i64 0) (.int .i64 K) (.int .i64 n) (.string inf) (.string tx) (.int .i64 0) (.slice ka kn kc))
  clear hx2 hbw2
  go_wp2
  refine bodyPost_ret (v:=.tuple #[.agg #[.int .i64 0,.int .i64 K,.int .i64 n,.string inf,.string tx,.int .i64 0,.slice ka kn kc],.int .i64 sz]) (by have z0:=za0 hzz.out 0 _ rfl;have z1:=za0 hzz.out 1 _ rfl;have z2:=za0 hzz.out 2 _ rfl;have z3:=za0 hzz.out 3 _ rfl;have z4:=za0 hzz.out 4 _ rfl;have z5:=za0 hzz.out 5 _ rfl;have z6:=za0 hzz.out 6 _ rfl;simp[results,Tryz.results68,go_sem,z0,z1,z2,z3,z4,z5,z6]) rfl ?_
  exact ⟨.slice ka kn kc,ns,by rw[hE.out.1,hE.out.2],hrz.out.move (fun x hx=>⟨by have:=hx.1;omega,by rw[zhb];exact hx.2⟩) (fun _ _=>rfl),hid hU.out.2.1,hbz.out⟩
 have hfH:=hid hf
 have hfk:fk=0:=by have:=hF.out.2;rw[if_neg hf] at this;exact this
 subst hfk
 clear hf
 cases q
 case true=>
  have hR1:RB=(.mk 5 0 [] [] false (S.za2 d (S.zad (datL (((s0,z0):Ln)::ts)))).1,(S.zad (datL (((s0,z0):Ln)::ts))).length):=by rw[hspec.out,if_neg h4H.out,if_neg (by simp),if_neg hlH.out,if_neg hfH.out,if_pos rfl]
  have hQt:=zu0 C d hRH.out b o cap (((s0,z0):Ln)::ts) z WM hrowM.out hnumH.out hbWM (by rw[hdcH.out];simp[hqH.out]) (by
   rw[hdcH.out]
   refine Nat.lt_of_lt_of_le (zlx x0 (datL ts) hqH.out) ?_
   rw[← hdcH.out];exact hdH.out)
  obtain ⟨K,n,inf,tx,sz,hE0,hP0⟩:∃ K n inf tx sz,BIs RB K n inf tx sz∧Calls Tryz.prog 97 #[.slice (some ⟨b,o,none⟩) (ts.length+1) cap] WM (zu9 C z RB.1 WM K n inf tx sz):=by
   refine ⟨RB.1.kind,RB.1.n,S.B RB.1.info,S.B (zcq RB.1.kind RB.1.text RB.1.loose),(RB.2:Int),⟨fun kv ns=>rfl,rfl⟩,hQt.mono ?_⟩
   rintro e w2 ⟨kv,ns,rfl,hrep,hM,hb2⟩
   obtain ⟨ka,kn,kc,rfl⟩:=hrep.form
   refine ⟨ka,kn,kc,ns,?_,hid ⟨hrep,?_,hb2⟩⟩
   ·rw[hR1];rfl
   ·rw[hR1];unfold KidB;rw[if_neg (by show ¬ ((5:Int)=1∨(5:Int)=2);omega)];exact hM.out
  have hE:=hid hE0
  have hP:=hid hP0
  clear hE0 hP0 hQt hR1
  go_wp2_with fail
  refine (hIn.out _).mono ?_
  rintro e w' ⟨rfl,rfl⟩
  go_wp2_with fail
  refine hP.out.mono ?_
  rintro e w2 ⟨ka,kn,kc,ns,rfl,hU⟩
  have hx2:=(hU.out.2.2.block w.heap.size hwM).trans hxM.out
  have hw2:w.heap.size<w2.heap.size:=Nat.lt_of_lt_of_le hwM hU.out.2.2.size
  have d0:w2.cell? ⟨w.heap.size,0,none⟩=some (.int .i64 0):=za0 hx2 0 _ rfl
  have d1:w2.cell? ⟨w.heap.size,1,none⟩=some (.int .i64 0):=za0 hx2 1 _ rfl
  have d2:w2.cell? ⟨w.heap.size,2,none⟩=some (.int .i64 0):=za0 hx2 2 _ rfl
  have d3:w2.cell? ⟨w.heap.size,3,none⟩=some (.string ⟨#[]⟩):=za0 hx2 3 _ rfl
  have d4:w2.cell? ⟨w.heap.size,4,none⟩=some (.string ⟨#[]⟩):=za0 hx2 4 _ rfl
  have d5:w2.cell? ⟨w.heap.size,5,none⟩=some (.int .i64 0):=za0 hx2 5 _ rfl
  have d6:w2.cell? ⟨w.heap.size,6,none⟩=some (.slice none 0 0):=za0 hx2 6 _ rfl
  have g0:=za7 hx2
  have hzz:=hid (set7 hx2 (.int .i64 0) (.int .i64 K) (.int .i64 n) (.string inf) (.string tx) (.int .i64 0) (.slice ka kn kc))
  have hbw2:Below w.heap.size w w2:=hbM.out.trans (hU.out.2.2.mono (Nat.le_of_lt hwM))
  have hbz:=hid (zb7 (N:=w.heap.size) hbw2 (Nat.le_refl _) (.int .i64 0) (.int .i64 K) (.int .i64 n) (.string inf) (.string tx) (.int .i64 0) (.slice ka kn kc))
  have hrz:=hid (zcs hU.out.1 (N:=w.heap.size) (fun x hx e=>by have:=hx.1;omega) (.int .i64 0) (.int .i64 K) (.int .i64 n) (.string inf) (.string tx) (.int .i64 0) (.slice ka kn kc))
  clear hx2 hbw2
  go_wp2
  refine bodyPost_ret (v:=.tuple #[.agg #[.int .i64 0,.int .i64 K,.int .i64 n,.string inf,.string tx,.int .i64 0,.slice ka kn kc],.int .i64 sz]) (by have z0:=za0 hzz.out 0 _ rfl;have z1:=za0 hzz.out 1 _ rfl;have z2:=za0 hzz.out 2 _ rfl;have z3:=za0 hzz.out 3 _ rfl;have z4:=za0 hzz.out 4 _ rfl;have z5:=za0 hzz.out 5 _ rfl;have z6:=za0 hzz.out 6 _ rfl;simp[results,Tryz.results68,go_sem,z0,z1,z2,z3,z4,z5,z6]) rfl ?_
  exact ⟨.slice ka kn kc,ns,by rw[hE.out.1,hE.out.2],hrz.out.move (fun x hx=>⟨by have:=hx.1;omega,by rw[zhb];exact hx.2⟩) (fun _ _=>rfl),hid hU.out.2.1,hbz.out⟩
 cases iok
 case true=>
  have hR1:RB=S.zbg (S.za2 d) (S.item x0) (datL (((s0,z0):Ln)::ts)):=by rw[hspec.out,if_neg h4H.out,if_neg (by simp),if_neg hlH.out,if_neg hfH.out,if_neg (by simp),if_pos hiokH.out]
  obtain ⟨rfl,rfl,rfl,rfl⟩:=hIs.out hiokH.out
  have hLt:=hLH.out b o cap ((s0,z0):Ln) ts z WM (S.item x0) hcap hbWM hrowM.out hnumH.out (by rw[hx0dH.out]) hiokH.out hdH.out
  obtain ⟨K,n,inf,tx,sz,hE0,hP0⟩:∃ K n inf tx sz,BIs RB K n inf tx sz∧Calls Tryz.prog 98 #[.slice (some ⟨b,o,none⟩) (ts.length+1) cap,.agg #[.int .u8 ((S.item x0).kind.toNat:Int),.int .i64 (S.item x0).number,.bool (S.item x0).empty,.int .i64 ((S.item x0).zaa:Int)]] WM (zu9 C z RB.1 WM K n inf tx sz):=by
   refine ⟨RB.1.kind,RB.1.n,S.B RB.1.info,S.B (zcq RB.1.kind RB.1.text RB.1.loose),(RB.2:Int),⟨fun kv ns=>rfl,rfl⟩,hLt.mono ?_⟩
   rintro e w2 ⟨kv,ns,rfl,hrep,hM,hb2⟩
   obtain ⟨ka,kn,kc,rfl⟩:=hrep.form
   refine ⟨ka,kn,kc,ns,?_,hid ⟨hrep,?_,hb2⟩⟩
   ·rw[hR1];rfl
   ·rw[hR1];unfold KidB;rw[if_neg (by show ¬ ((6:Int)=1∨(6:Int)=2);omega)];exact hM.out
  have hE:=hid hE0
  have hP:=hid hP0
  clear hE0 hP0 hLt hR1 hIs
  go_wp2_with fail
  refine (hIn.out _).mono ?_
  rintro e w' ⟨rfl,rfl⟩
  go_wp2_with fail
  refine hP.out.mono ?_
  rintro e w2 ⟨ka,kn,kc,ns,rfl,hU⟩
  have hx2:=(hU.out.2.2.block w.heap.size hwM).trans hxM.out
  have hw2:w.heap.size<w2.heap.size:=Nat.lt_of_lt_of_le hwM hU.out.2.2.size
  have d0:w2.cell? ⟨w.heap.size,0,none⟩=some (.int .i64 0):=za0 hx2 0 _ rfl
  have d1:w2.cell? ⟨w.heap.size,1,none⟩=some (.int .i64 0):=za0 hx2 1 _ rfl
  have d2:w2.cell? ⟨w.heap.size,2,none⟩=some (.int .i64 0):=za0 hx2 2 _ rfl
  have d3:w2.cell? ⟨w.heap.size,3,none⟩=some (.string ⟨#[]⟩):=za0 hx2 3 _ rfl
  have d4:w2.cell? ⟨w.heap.size,4,none⟩=some (.string ⟨#[]⟩):=za0 hx2 4 _ rfl
  have d5:w2.cell? ⟨w.heap.size,5,none⟩=some (.int .i64 0):=za0 hx2 5 _ rfl
  have d6:w2.cell? ⟨w.heap.size,6,none⟩=some (.slice none 0 0):=za0 hx2 6 _ rfl
  have g0:=za7 hx2
  have hzz:=hid (set7 hx2 (.int .i64 0) (.int .i64 K) (.int .i64 n) (.string inf) (.string tx) (.int .i64 0) (.slice ka kn kc))
  have hbw2:Below w.heap.size w w2:=hbM.out.trans (hU.out.2.2.mono (Nat.le_of_lt hwM))
  have hbz:=hid (zb7 (N:=w.heap.size) hbw2 (Nat.le_refl _) (.int .i64 0) (.int .i64 K) (.int .i64 n) (.string inf) (.string tx) (.int .i64 0) (.slice ka kn kc))
  have hrz:=hid (zcs hU.out.1 (N:=w.heap.size) (fun x hx e=>by have:=hx.1;omega) (.int .i64 0) (.int .i64 K) (.int .i64 n) (.string inf) (.string tx) (.int .i64 0) (.slice ka kn kc))
  clear hx2 hbw2
  go_wp2
  refine bodyPost_ret (v:=.tuple #[.agg #[.int .i64 0,.int .i64 K,.int .i64 n,.string inf,.string tx,.int .i64 0,.slice ka kn kc],.int .i64 sz]) (by have z0:=za0 hzz.out 0 _ rfl;have z1:=za0 hzz.out 1 _ rfl;have z2:=za0 hzz.out 2 _ rfl;have z3:=za0 hzz.out 3 _ rfl;have z4:=za0 hzz.out 4 _ rfl;have z5:=za0 hzz.out 5 _ rfl;have z6:=za0 hzz.out 6 _ rfl;simp[results,Tryz.results68,go_sem,z0,z1,z2,z3,z4,z5,z6]) rfl ?_
  exact ⟨.slice ka kn kc,ns,by rw[hE.out.1,hE.out.2],hrz.out.move (fun x hx=>⟨by have:=hx.1;omega,by rw[zhb];exact hx.2⟩) (fun _ _=>rfl),hid hU.out.2.1,hbz.out⟩
 have hR1:RB=S.za8 (datL (((s0,z0):Ln)::ts)):=by rw[hspec.out,if_neg h4H.out,if_neg (by simp),if_neg hlH.out,if_neg hfH.out,if_neg (by simp),if_neg (by rw[hiokH.out];simp)]
 have hPa:=zmn C hWH.out b o cap ((s0,z0):Ln) ts WM hrowM.out hbWM
 obtain ⟨K,n,inf,tx,sz,hE0,hP0⟩:∃ K n inf tx sz,BIs RB K n inf tx sz∧Calls Tryz.prog 99 #[.slice (some ⟨b,o,none⟩) (ts.length+1) cap] WM (zu9 C z RB.1 WM K n inf tx sz):=by
  rw[← hR1] at hPa
  have hk:RB.1.kind=1∨RB.1.kind=2:=by rw[hR1];unfold S.za8;dsimp only;split <;> (try split) <;> simp[S.Blk.kind]
  have hi9:RB.1.info=[]:=by rw[hR1];unfold S.za8;dsimp only;split <;> (try split) <;> simp[S.Blk.info]
  refine ⟨RB.1.kind,RB.1.n,S.B RB.1.info,S.B (zcq RB.1.kind RB.1.text RB.1.loose),(RB.2:Int),⟨fun kv ns=>rfl,rfl⟩,hPa.mono ?_⟩
  rintro e w2 ⟨kv,ns,rfl,hrep,hM,hb2⟩
  obtain ⟨ka,kn,kc,rfl⟩:=hrep.form
  refine ⟨ka,kn,kc,ns,?_,hid ⟨hrep,?_,hb2⟩⟩
  ·have ht:zcq RB.1.kind RB.1.text RB.1.loose=[]:=by unfold zcq;rw[if_neg (by omega),if_neg (by omega)]
   show _=Ending.returned (.tuple #[.agg #[.int .i64 0,.int .i64 RB.1.kind,.int .i64 RB.1.n,.string (S.B RB.1.info),.string (S.B (zcq RB.1.kind RB.1.text RB.1.loose)),.int .i64 0,.slice ka kn kc],.int .i64 (RB.2:Int)])
   rw[ht,hi9];rfl
  ·unfold KidB;rw[if_pos hk];exact hM.out
 have hE:=hid hE0
 have hP:=hid hP0
 clear hE0 hP0 hPa hR1
 go_wp2_with fail
 refine (hIn.out _).mono ?_
 rintro e w' ⟨rfl,rfl⟩
 go_wp2_with fail
 refine hP.out.mono ?_
 rintro e w2 ⟨ka,kn,kc,ns,rfl,hU⟩
 have hx2:=(hU.out.2.2.block w.heap.size hwM).trans hxM.out
 have hw2:w.heap.size<w2.heap.size:=Nat.lt_of_lt_of_le hwM hU.out.2.2.size
 have d0:w2.cell? ⟨w.heap.size,0,none⟩=some (.int .i64 0):=za0 hx2 0 _ rfl
 have d1:w2.cell? ⟨w.heap.size,1,none⟩=some (.int .i64 0):=za0 hx2 1 _ rfl
 have d2:w2.cell? ⟨w.heap.size,2,none⟩=some (.int .i64 0):=za0 hx2 2 _ rfl
 have d3:w2.cell? ⟨w.heap.size,3,none⟩=some (.string ⟨#[]⟩):=za0 hx2 3 _ rfl
 have d4:w2.cell? ⟨w.heap.size,4,none⟩=some (.string ⟨#[]⟩):=za0 hx2 4 _ rfl
 have d5:w2.cell? ⟨w.heap.size,5,none⟩=some (.int .i64 0):=za0 hx2 5 _ rfl
 have d6:w2.cell? ⟨w.heap.size,6,none⟩=some (.slice none 0 0):=za0 hx2 6 _ rfl
 have g0:=za7 hx2
 have hzz:=hid (set7 hx2 (.int .i64 0) (.int .i64 K) (.int .i64 n) (.string inf) (.string tx) (.int .i64 0) (.slice ka kn kc))
 have hbw2:Below w.heap.size w w2:=hbM.out.trans (hU.out.2.2.mono (Nat.le_of_lt hwM))
 have hbz:=hid (zb7 (N:=w.heap.size) hbw2 (Nat.le_refl _) (.int .i64 0) (.int .i64 K) (.int .i64 n) (.string inf) (.string tx) (.int .i64 0) (.slice ka kn kc))
 have hrz:=hid (zcs hU.out.1 (N:=w.heap.size) (fun x hx e=>by have:=hx.1;omega) (.int .i64 0) (.int .i64 K) (.int .i64 n) (.string inf) (.string tx) (.int .i64 0) (.slice ka kn kc))
 clear hx2 hbw2
 go_wp2
 refine bodyPost_ret (v:=.tuple #[.agg #[.int .i64 0,.int .i64 K,.int .i64 n,.string inf,.string tx,.int .i64 0,.slice ka kn kc],.int .i64 sz]) (by have z0:=za0 hzz.out 0 _ rfl;have z1:=za0 hzz.out 1 _ rfl;have z2:=za0 hzz.out 2 _ rfl;have z3:=za0 hzz.out 3 _ rfl;have z4:=za0 hzz.out 4 _ rfl;have z5:=za0 hzz.out 5 _ rfl;have z6:=za0 hzz.out 6 _ rfl;simp[results,Tryz.results68,go_sem,z0,z1,z2,z3,z4,z5,z6]) rfl ?_
 exact ⟨.slice ka kn kc,ns,by rw[hE.out.1,hE.out.2],hrz.out.move (fun x hx=>⟨by have:=hx.1;omega,by rw[zhb];exact hx.2⟩) (fun _ _=>rfl),hid hU.out.2.1,hbz.out⟩
def znl (d:Nat) (row:List (List UInt8)) (k:Nat) (bs0:List S.Blk) (g:Bool):Prop:=k≤row.length∧∃ f,row.length-k≤f ∧
 S.za2 (d+1) row=(bs0++(S.rowFrom (S.za2 d) row.length f (row.drop (k+S.za5 (row.drop k)))).1,(g || (decide (0<S.za5 (row.drop k)) && !bs0.isEmpty && !(row.drop (k+S.za5 (row.drop k))).isEmpty)) || (S.rowFrom (S.za2 d) row.length f (row.drop (k+S.za5 (row.drop k)))).2)
theorem znl.start (d:Nat) (row:List (List UInt8)):znl d row 0 [] false:=by
 refine ⟨Nat.zero_le _,row.length,by omega,?_⟩
 rw[List.drop_zero,Nat.zero_add]
 simp only[S.za2,List.nil_append,List.isEmpty_nil,Bool.not_true,Bool.and_false,Bool.false_and,Bool.or_false,Bool.false_or]
theorem zeb (sub:List (List UInt8)→List S.Blk × Bool) (Z f:Nat):S.rowFrom sub Z f []=([],false):=by
 cases f <;> simp[S.rowFrom]
theorem znl.last {d:Nat} {row:List (List UInt8)} {k:Nat} {bs0:List S.Blk} {g:Bool} (h:znl d row k bs0 g) (he:row.length≤k+S.za5 (row.drop k)):S.za2 (d+1) row=(bs0,g):=by
 obtain ⟨_,f,_,h⟩:=h
 rw[List.drop_eq_nil_of_le he,zeb] at h
 simpa using h
theorem znl.step {d:Nat} {row:List (List UInt8)} {k:Nat} {bs0:List S.Blk} {g:Bool} (h:znl d row k bs0 g) {c:Nat} (hc:S.za5 (row.drop k)=c) (hlt:k+c<row.length) {b:S.Blk} {z:Nat} (hb:S.zah (S.za2 d) (row.drop (k+c))=(b,z)) (hz1:1≤z) (hz2:k+c+z≤row.length) :
  znl d row (k+c+z) (bs0++[b.put ((k+c:Nat):Int)]) (g || (decide (0<c) && !bs0.isEmpty)):=by
 obtain ⟨_,f,hf,h⟩:=h
 rw[hc] at h
 obtain ⟨f,rfl⟩:∃ f',f=f' + 1:=⟨f-1,by omega⟩
 refine ⟨hz2,f,by omega,?_⟩
 have hne:¬ row.drop (k+c)=[]:=by
  intro e
  have:=congrArg List.length e
  rw[List.length_drop,List.length_nil] at this
  omega
 have hem:(row.drop (k+c)).isEmpty=false:=by
  cases hh:row.drop (k+c) with
  | nil=>exact absurd hh hne
  | cons _ _=>rfl
 rw[h,hem]
 simp only[S.rowFrom]
 rw[if_neg hne,hb]
 dsimp only
 rw[List.drop_drop,List.drop_drop,List.length_drop]
 have e1:row.length-(row.length-(k+c))=k+c:=by omega
 have e2:k+c+(z+S.za5 (row.drop (k+c+z)))=k+c+z+S.za5 (row.drop (k+c+z)):=by omega
 have hb2:(bs0++[b.put ((k+c:Nat):Int)]).isEmpty=false:=by cases bs0 <;> rfl
 rw[e1,e2,hb2]
 refine Prod.ext ?_ ?_
 ·simp
 ·simp only[Bool.not_false,Bool.and_true,Bool.or_assoc]
theorem Tryz.zla:(Tryz.prog.info? 118).map (fun i=>(i.zero,i.size,i.bytes))=some (some (.agg #[.int .i64 0,.int .i64 0,.int .i64 0,.string ⟨#[]⟩,.string ⟨#[]⟩,.int .i64 0,.slice none 0 0]),7,88):=by kernel_rfl
def zc6 (ps:List (Rn × Value)):List Value:=(ps.map (fun p=>rn7 p.1 p.2)).flatten
theorem zjy (ps:List (Rn × Value)) (p:Rn × Value):zc6 (ps++[p])=zc6 ps++rn7 p.1 p.2:=by simp[zc6]
theorem zqz (ps:List (Rn × Value)) (i j:Nat) (p:Rn × Value) (h:ps[i]?=some p) (hj:j<7):(zc6 ps)[7*i+j]?=(rn7 p.1 p.2)[j]?:=by
 induction ps generalizing i with
 | nil=>simp at h
 | cons q r ih=>
  have hl:(rn7 q.1 q.2).length=7:=rfl
  cases i with
  | zero=>
   simp at h;subst h
   show (rn7 q.1 q.2++zc6 r)[7*0+j]?=_
   rw[List.getElem?_append_left (by rw[hl];omega)];simp
  | succ i=>
   have:=ih i (by simpa using h)
   show (rn7 q.1 q.2++zc6 r)[7*(i+1)+j]?=_
   rw[List.getElem?_append_right (by rw[hl];omega),hl,← this];congr 1;omega
theorem zgw {w:World} {B:Nat} {v:Value} {ps:List (Rn × Value)} {A:Nat→Prop} (h:w.ownsRow B 118 7 v ps.length (zc6 ps)) (hA:∀ g,v.ownBlock=some g→A g)
  (hk:∀ (i:Nat) (p:Rn × Value),ps[i]?=some p→RepN w A p.2 p.1.kids):RepN w A v (ps.map Prod.fst):=by
 rcases h.2 with ⟨h1,h2⟩|⟨g,cap,cur,h1,h2,h3,h4,h5,h6,h7⟩
 ·have:ps=[]:=List.eq_nil_of_length_eq_zero h2
  subst this;rw[h1];exact .nil
 ·subst h1
  have hc:∀ i j p u,ps[i]?=some p→j<7→(rn7 p.1 p.2)[j]?=some u→w.cell? ⟨g,0+i*7+j,none⟩=some u:=by
   intro i j p u hi hj hu
   have hx:=zqz ps i j p hi hj
   rw[hu] at hx
   have:=h.cells (g:=g) rfl (7*i+j) u hx
   have ha:(⟨g,0,none⟩:Addr).add (7*i+j)=⟨g,0+i*7+j,none⟩:=by
    simp only[Addr.add];split
    ·rename_i h;simp <;> omega
    ·simp <;> omega
   rw[← ha];exact this
  have hlen:(ps.map Prod.fst).length=ps.length:=by simp
  rw[← hlen]
  refine .some g 0 cap (ps.map Prod.fst) (fun i=>(ps[i]?.map (fun p=>p.2)).getD .nilIface) (hA g rfl) (by rw[hlen];exact h4) ?_ ?_
  ·intro i t hi j u hu
   rw[List.getElem?_map] at hi
   cases hp:ps[i]? with
   | none=>rw[hp] at hi;simp at hi
   | some p=>
    rw[hp] at hi;simp at hi;subst hi
    have hj:j<7:=(List.getElem?_eq_some_iff.1 hu).1
    exact hc i j p u hp hj (by rw[hp] at hu;simpa using hu)
  ·intro i t hi
   rw[List.getElem?_map] at hi
   cases hp:ps[i]? with
   | none=>rw[hp] at hi;simp at hi
   | some p=>
    rw[hp] at hi;simp at hi;subst hi
    have:=hk i p hp
    simpa [hp] using this
structure NRel (B:Nat) (w:World) (ps:List (Rn × Value)) (v:Value) (wr:World):Prop where
 own:wr.ownsRow B 118 7 v ps.length (zc6 ps)
 kids:∀ (i:Nat) (p:Rn × Value),ps[i]?=some p→RepN wr (fun x=>B≤x∧x<wr.heap.size∧some x≠v.ownBlock) p.2 p.1.kids
 below:Below B w wr
theorem NRel.start (B:Nat) (w:World):NRel B w [] (.slice none 0 0) w:=⟨World.ownsRow_nil _ _ _ _,fun i p h=>by simp at h,Below.refl _ _⟩
theorem NRel.step {B:Nat} {w wr w1 w2 wX:World} {g cap1:Nat} {ps:List (Rn × Value)} {v kv:Value} {t:Rn}
  (h:NRel B w ps v wr) (hB:B≤wr.heap.size) (hb1:Below wr.heap.size wr w1) (hrep:RepN w1 (fun x=>wr.heap.size≤x∧x<w1.heap.size) kv t.kids)
  (hown3:w2.ownsRow B 118 7 (.slice (some ⟨g,0,none⟩) (ps.length+1) cap1) (ps.length+1) (zc6 ps++rn7 t kv)) (hbX:Below w1.heap.size w1 wX) (hgrow:wX.grownBy w2 v.ownBlock)
  (hat:v.ownBlock=some g∨w1.heap.size≤g):NRel B w (ps++[(t,kv)]) (.slice (some ⟨g,0,none⟩) (ps++[(t,kv)]).length cap1) w2:=by
 have hlt:=h.own.lt
 have hs1:=hb1.size
 have hsX:=hbX.size
 have hs2:=hgrow.size
 have hblk:∀ x,x<w1.heap.size→some x≠v.ownBlock→w2.heap[x]?=w1.heap[x]?:=by
  intro x hx hne
  rw[hgrow.block x (by omega) hne,hbX.block x hx]
 refine ⟨by rw[zjy,List.length_append];exact hown3,?_,?_⟩
 ·intro i p hi
  show RepN w2 (fun x=>B≤x∧x<w2.heap.size∧some x≠some g) p.2 p.1.kids
  by_cases hil:i<ps.length
  ·rw[List.getElem?_append_left hil] at hi
   refine (h.kids i p hi).move ?_ ?_
   ·intro x hx
    refine ⟨hx.1,by omega,?_⟩
    rcases hat with hat|hat
    ·rw[← hat];exact hx.2.2
    ·intro e;cases e;omega
   ·intro x hx
    rw[hblk x (by omega) hx.2.2,hb1.block x hx.2.1]
  ·rw[List.getElem?_append_right (by omega)] at hi
   have hi0:i-ps.length=0:=by have:=(List.getElem?_eq_some_iff.1 hi).1;simp at this;omega
   rw[hi0] at hi;simp at hi;subst hi
   refine hrep.move ?_ ?_
   ·intro x hx
    refine ⟨by omega,by omega,?_⟩
    intro e
    rcases hat with hat|hat
    ·have:=hlt g hat;cases e;omega
    ·cases e;omega
   ·intro x hx
    refine hblk x hx.2 (fun e=>?_)
    have:=hlt x e.symm;omega
 ·refine Below.grown ((h.below.trans (hb1.mono hB)).trans (hbX.mono (by omega))) hgrow (by omega) (fun q hq=>(hlt q hq).1)
end Go.Proofs.YtlojgpkajkedeaaGreatDoor
