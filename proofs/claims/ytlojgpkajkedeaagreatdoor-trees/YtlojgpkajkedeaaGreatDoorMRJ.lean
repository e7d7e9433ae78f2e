import Derived.Test.YtlojgpkajkedeaaGreatDoorMW13
import Derived.Test.YtlojgpkajkedeaaGreatDoorMStr5
import Derived.Test.YtlojgpkajkedeaaGreatDoorMRH
import Derived.Test.YtlojgpkajkedeaaGreatDoorME7
namespace Go.Proofs.YtlojgpkajkedeaaGreatDoor
open Go.RowKit
set_option maxRecDepth 100000 in
set_option maxHeartbeats 4000000 in
theorem zr5 (b o cap:Nat) (p0:Ln) (ts:List Ln) (c:UInt8) (n:Nat) (info:ByteArray) (w:World) (hrow:RowL w b o (p0::ts)) (hbw:b<w.heap.size) (hn:1≤n) (hn2:n≤1000000) :
  Calls Tryz.prog 96 #[.slice (some ⟨b,o,none⟩) (ts.length+1) cap,.int .u8 (c.toNat:Int),.int .i64 (n:Nat),.string info] w fun e w'=>e = .returned (.tuple #[.agg #[.int .i64 0,.int .i64 3,.int .i64 0,.string info,.string (S.B (S.zat (S.indent p0.1.data.toList) ((datL ts).take (S.zb8 c n (datL ts))))),.int .i64 0,.slice none 0 0],.int .i64 ((min (S.zb8 c n (datL ts)+1+1) (ts.length+1):Nat):Int)])∧Below w.heap.size w w':=by
 obtain ⟨W0,hW0,hb0,hz0,hx0⟩:=zma w
 have hlen:=hrow.len
 simp only[List.length_cons] at hlen
 have hrow0:=hrow.below hb0 hbw
 have hsz0:=hrow.size 0 p0 rfl
 have hil:=S.zbt p0.1.data.toList
 rw[S.length_data] at hil
 have htot:tot (zce ts)≤1000000:=by
  have:=hrow.2
  simp only[zce,List.map_cons,tot,List.sum_cons] at this ⊢
  omega
 obtain ⟨s0,z0⟩:=p0
 dsimp only at hsz0 hil ⊢
 obtain ⟨ind,hind⟩:∃ ind,S.indent s0.data.toList=ind:=⟨_,rfl⟩
 rw[hind] at hil ⊢
 have hI0:Hid (∀ wx,Calls Tryz.prog 88 #[.string s0] wx fun e w'=>e = .returned (.int .i64 (ind:Nat))∧w'=wx):=hid (fun wx=>by
  have:=zc3 s0 wx hsz0
  rw[hind] at this
  exact this)
 have hrowH:=hid hrow0
 have hx0H:=hid hx0
 have hb0H:=hid hb0
 have hW0H:=hid hW0
 have hbW0:b<W0.heap.size:=by omega
 have hwW0:w.heap.size<W0.heap.size:=by omega
 clear hW0 hb0 hx0 hrow hrow0 hind hz0
 go_enter Tryz.func96,Tryz.ntmps96
 go_upto_region 1 with fail
 rw[← hW0H.out]
 go_wp2
 go_loopw [10,11,12] (fun tv i _ wr=>∃ k:Nat,k≤ts.length∧i = .int .i64 ((k:Int)+1)∧tv = .string (S.B (S.zat ind ((datL ts).take k)))∧Hid ((∀ j,j<k→((datL ts)[j]?.map (S.zc7 c n))=some false)∧Below W0.heap.size W0 wr)) (fun _ i _ _=>ts.length+1-(intOf i).toNat)
 case atStart=>exact ⟨0,Nat.zero_le _,rfl,rfl,hid ⟨by intro j hj;omega,Below.refl _ _⟩⟩
 case round=>
  obtain ⟨k,hk,rfl,rfl,hrel'⟩:=hrel
  obtain ⟨hall,hbr⟩:=hrel'.out
  have hbH:=hid hbr
  have hw1:w.heap.size<wr.heap.size:=Nat.lt_of_lt_of_le hwW0 hbr.size
  have hxr:=(hbr.block w.heap.size hwW0).trans hx0H.out
  have hxrH:=hid hxr
  clear hrel'
  by_cases hlt:k<ts.length
  ·obtain ⟨p,hp⟩:∃ p,ts[k]?=some p:=⟨ts[k],List.getElem?_eq_getElem hlt⟩
   have hp1:(((s0,z0):Ln)::ts)[k+1]?=some p:=by simpa using hp
   have hc:=(hrowH.out.1 (k+1) p hp1).1
   have hsz:=hrowH.out.size (k+1) p hp1
   have hd:=zca ts k p hp
   have hsn:=zh3 ind (zce ts) k p.1 (by simp[zce,hp])
   have hle:=zi1 ind (zce ts) (k+1)
   have hdat:dat (zce ts)=datL ts:=rfl
   rw[hdat] at hsn hle
   have hc00:=(hrowH.out.1 0 (s0,z0) rfl).1
   have hil2:=S.zbt p.1.data.toList
   rw[S.length_data] at hil2
   obtain ⟨s,z⟩:=p
   dsimp only at hc hsz hd hsn hc00 hil2
   obtain ⟨t,ht⟩:∃ t,S.indent s.data.toList=t:=⟨_,rfl⟩
   obtain ⟨mn,hmn⟩:∃ mn,min ind t=mn:=⟨_,rfl⟩
   have hCl:=zr9 s c n wr hsz hn hn2
   obtain ⟨cl,hcl⟩:∃ cl,S.zc7 c n s.data.toList=cl:=⟨_,rfl⟩
   rw[hcl] at hCl
   have hCH:Hid (Calls Tryz.prog 141 #[.string s,.int .u8 (c.toNat:Int),.int .i64 (n:Nat)] wr fun e w'=>e = .returned (.bool cl)∧wr=w'):=hid (hCl.mono (fun e w' ⟨h1,h2⟩=>⟨h1,h2.symm⟩))
   have hcr:wr.cell? ⟨b,o+(k+1)*2,none⟩=some (.string s):=(hbr.cell (p:=⟨b,o+(k+1)*2,none⟩) hbW0).trans hc
   have hJ0:(0:Int)≤(k:Int)+1:=by omega
   have hJ1:(k:Int)+1<(ts.length:Int)+1:=by omega
   have hton:((k:Int)+1).toNat=k+1:=by omega
   obtain ⟨T0,hT0⟩:∃ T0,S.zat ind ((datL ts).take k)=T0:=⟨_,rfl⟩
   cases cl
   ·have hall':Hid (∀ j,j<k+1→((datL ts)[j]?.map (S.zc7 c n))=some false):=hid (by
     intro j hj;by_cases e:j=k
     ·subst e;rw[hd,Option.map_some,hcl]
     ·exact hall j (by omega))
    haveI hNE:Nonempty (Bk wr):=⟨⟨wr,Below.refl _ _⟩⟩
    have hbr0:b<wr.heap.size:=Nat.lt_of_lt_of_le hbW0 hbr.size
    have hc0r:wr.cell? ⟨b,o,none⟩=some (.string s0):=(hbr.cell (p:=⟨b,o,none⟩) hbW0).trans (by simpa using hc00)
    have C0:∀ kk:Bk wr,kk.w.cell? ⟨b,o,none⟩=some (.string s0):=fun kk=>(kk.h.cell (p:=⟨b,o,none⟩) hbr0).trans hc0r
    have C1:∀ kk:Bk wr,kk.w.cell? ⟨b,o+(k+1)*2,none⟩=some (.string s):=fun kk=>(kk.h.cell (p:=⟨b,o+(k+1)*2,none⟩) hbr0).trans hcr
    have hI0':Hid (∀ kk:Bk wr,Calls Tryz.prog 88 #[.string s0] kk.w fun e w'=>e = .returned (.int .i64 (ind:Nat))∧Below wr.heap.size wr w'):=hid (fun kk=>(hI0.out kk.w).mono (fun e w' ⟨h1,h2⟩=>⟨h1,by rw[h2];exact kk.h⟩))
    have hI1':Hid (∀ kk:Bk wr,Calls Tryz.prog 88 #[.string s] kk.w fun e w'=>e = .returned (.int .i64 (t:Nat))∧Below wr.heap.size wr w'):=hid (fun kk=>by
     have:=zc3 s kk.w hsz
     rw[ht] at this
     exact this.mono (fun e w' ⟨h1,h2⟩=>⟨h1,by rw[h2];exact kk.h⟩))
    obtain ⟨be,hbe⟩:∃ be,S.B (s.data.toList.drop mn)=be:=⟨_,rfl⟩
    have hB':Hid (∀ kk:Bk wr,Calls Tryz.prog 132 #[.string s,.int .i64 (mn:Nat)] kk.w fun e w'=>e = .returned (.string be)∧Below wr.heap.size wr w'):=hid (fun kk=>by
     have:=zhz s mn kk.w (by rw[ht] at hil2;omega)
     rw[hbe] at this
     exact this.mono (fun e w' ⟨h1,h2⟩=>⟨h1,by rw[h2];exact kk.h⟩))
    obtain ⟨T1,hT1⟩:∃ T1,S.zat ind ((datL ts).take (k+1))=T1:=⟨_,rfl⟩
    rw[hT0,hT1,ht,hmn] at hsn
    rw[hT1] at hle
    rw[hT0]
    have hlen1:=congrArg List.length hsn
    simp only[List.length_append,List.length_singleton] at hlen1
    have hbes:be.size=(s.data.toList.drop mn).length:=by rw[← hbe,S.zbc]
    obtain ⟨V1,hV1⟩:∃ V1,S.B T0++be=V1:=⟨_,rfl⟩
    have hcc1:Op.stringOp .add (S.B T0) be=pure (.string V1):=by rw[← hV1];exact zmm _ _ (by rw[S.zbc];omega)
    have hcc2:Op.stringOp .add V1 ⟨#[10]⟩=pure (.string (S.B T1)):=by
     rw[← hV1,zmm _ _ (by rw[ByteArray.size_append,S.zbc];show T0.length+be.size+1≤_;omega)]
     congr 2
     rw[hsn,← hbe]
     unfold S.B
     apply ByteArray.ext
     simp[ByteArray.data_append]
    have hmi:min (ind:Int) (t:Int)=(mn:Int):=by omega
    have hT1H:=hid hT1
    have hq:Hid (∀ kq:Bk wr,Below W0.heap.size W0 kq.w):=hid (fun kq=>hbH.out.trans (kq.h.mono hbH.out.size))
    clear hall hbr hp hp1 hc hd hsn hle hdat hc00 hil2 ht hmn hCl hcl hT0 hbe hT1 hlen1 hbes hV1 hxr
    go_wp2_with fail
    refine hCH.out.mono ?_
    rintro e w' ⟨rfl,rfl⟩
    go_wp2_with fail
    refine zav (by kernel_rfl) (by kernel_rfl) ?_
    repeat (go_big_quiet_step ((rename_i kk;first|exact (hI0'.out kk).mono (fun e w' h=>⟨h.1,⟨w',h.2⟩,rfl⟩)|exact (hI1'.out kk).mono (fun e w' h=>⟨h.1,⟨w',h.2⟩,rfl⟩)|exact (hB'.out kk).mono (fun e w' h=>⟨h.1,⟨w',h.2⟩,rfl⟩))))
    refine wpQuiet_nil ?_
    intro _ hw'
    obtain ⟨kq,hw''⟩:=hw'
    subst hw''
    go_wp2
    go_roundw
    case rel=>exact ⟨k+1,by omega,by go_num,by rw[hT1H.out],hid ⟨hall'.out,hq.out kq⟩⟩
    case measure=>simp[intOf];omega
   ·have hfs:Hid (S.zb8 c n (datL ts)=k):=hid (zev c n _ k hall (by rw[hd,Option.map_some,hcl];simp))
    obtain ⟨t0,ht0⟩:∃ t0,S.B T0=t0:=⟨_,rfl⟩
    rw[hT0,ht0]
    have d0:=za0 hxrH.out 0 _ rfl
    have d1:=za0 hxrH.out 1 _ rfl
    have d2:=za0 hxrH.out 2 _ rfl
    have d3:=za0 hxrH.out 3 _ rfl
    have d4:=za0 hxrH.out 4 _ rfl
    have d5:=za0 hxrH.out 5 _ rfl
    have d6:=za0 hxrH.out 6 _ rfl
    have g0:=za7 hxrH.out
    have hz:=hid (set7 hxrH.out (.int .i64 0) (.int .i64 3) (.int .i64 0) (.string info) (.string t0) (.int .i64 0) (.slice none 0 0))
    have hbz:=hid (zb7 (N:=w.heap.size) (hb0H.out.trans (hbH.out.mono (Nat.le_of_lt hwW0))) (Nat.le_refl _) (.int .i64 0) (.int .i64 3) (.int .i64 0) (.string info) (.string t0) (.int .i64 0) (.slice none 0 0))
    have hres:Hid (S.B (S.zat ind ((datL ts).take (S.zb8 c n (datL ts))))=t0):=hid (by rw[hfs.out,hT0,ht0])
    clear hall hbr hp hp1 hc hd hsn hle hdat hc00 hil2 ht hmn hCl hcl hT0 hxr ht0
    go_wp2_with fail
    refine hCH.out.mono ?_
    rintro e w' ⟨rfl,rfl⟩
    go_wp2
    refine bodyPost_ret (v:=.tuple #[.agg #[.int .i64 0,.int .i64 3,.int .i64 0,.string info,.string t0,.int .i64 0,.slice none 0 0],.int .i64 ((k:Int)+1+1)]) (by have z0:=za0 hz.out 0 _ rfl;have z1:=za0 hz.out 1 _ rfl;have z2:=za0 hz.out 2 _ rfl;have z3:=za0 hz.out 3 _ rfl;have z4:=za0 hz.out 4 _ rfl;have z5:=za0 hz.out 5 _ rfl;have z6:=za0 hz.out 6 _ rfl;simp[results,Tryz.results96,go_sem,z0,z1,z2,z3,z4,z5,z6]) rfl ?_
    exact ⟨by rw[hres.out,hfs.out,Nat.min_eq_left (by omega)];rfl,hbz.out⟩
  ·have hke:k=ts.length:=by omega
   subst hke
   have hfs:Hid (S.zb8 c n (datL ts)=ts.length):=hid (zev c n _ _ hall (by rw[List.getElem?_eq_none (by rw[zaq];exact Nat.le_refl _)];simp))
   obtain ⟨t0,ht0⟩:∃ t0,S.B (S.zat ind ((datL ts).take ts.length))=t0:=⟨_,rfl⟩
   rw[ht0]
   have d0:=za0 hxrH.out 0 _ rfl
   have d1:=za0 hxrH.out 1 _ rfl
   have d2:=za0 hxrH.out 2 _ rfl
   have d3:=za0 hxrH.out 3 _ rfl
   have d4:=za0 hxrH.out 4 _ rfl
   have d5:=za0 hxrH.out 5 _ rfl
   have d6:=za0 hxrH.out 6 _ rfl
   have g0:=za7 hxrH.out
   have hz:=hid (set7 hxrH.out (.int .i64 0) (.int .i64 3) (.int .i64 0) (.string info) (.string t0) (.int .i64 0) (.slice none 0 0))
   have hbz:=hid (zb7 (N:=w.heap.size) (hb0H.out.trans (hbH.out.mono (Nat.le_of_lt hwW0))) (Nat.le_refl _) (.int .i64 0) (.int .i64 3) (.int .i64 0) (.string info) (.string t0) (.int .i64 0) (.slice none 0 0))
   have hres:Hid (S.B (S.zat ind ((datL ts).take (S.zb8 c n (datL ts))))=t0):=hid (by rw[hfs.out,ht0])
   have hJ1:¬ (ts.length:Int)+1<(ts.length:Int)+1:=by omega
   clear hall hbr hxr ht0
   go_wp2
   refine bodyPost_ret (v:=.tuple #[.agg #[.int .i64 0,.int .i64 3,.int .i64 0,.string info,.string t0,.int .i64 0,.slice none 0 0],.int .i64 ((ts.length:Int)+1)]) (by have z0:=za0 hz.out 0 _ rfl;have z1:=za0 hz.out 1 _ rfl;have z2:=za0 hz.out 2 _ rfl;have z3:=za0 hz.out 3 _ rfl;have z4:=za0 hz.out 4 _ rfl;have z5:=za0 hz.out 5 _ rfl;have z6:=za0 hz.out 6 _ rfl;simp[results,Tryz.results96,go_sem,z0,z1,z2,z3,z4,z5,z6]) rfl ?_
   exact ⟨by rw[hres.out,hfs.out,Nat.min_eq_right (by omega)] <;> rfl,hbz.out⟩
def WOK (C:List UInt8→List Rn→Prop):Prop:=∀ (s:ByteArray) (w:World),s.size≤1000000 →
 Calls Tryz.prog 95 #[.string s] w fun e w'=>∃ v ns,e = .returned v∧RepN w' (fun x=>w.heap.size≤x∧x<w'.heap.size) v ns∧Hid (C s.data.toList ns)∧Below w.heap.size w w'
theorem zhb {w:World} {N:Nat} (v0 v1 v2 v3 v4 v5 v6:Value):(((((((w.setCell ⟨N,0,none⟩ v0).setCell ⟨N,1,none⟩ v1).setCell ⟨N,2,none⟩ v2).setCell ⟨N,3,none⟩ v3).setCell ⟨N,4,none⟩ v4).setCell ⟨N,5,none⟩ v5).setCell ⟨N,6,none⟩ v6).heap.size=w.heap.size:=by simp[World.setCell]
theorem zcs {w:World} {A:Nat→Prop} {v:Value} {ns:List Rn} {N:Nat} (h:RepN w A v ns) (hA:∀ x,A x→x≠N) (v0 v1 v2 v3 v4 v5 v6:Value) :
  RepN (((((((w.setCell ⟨N,0,none⟩ v0).setCell ⟨N,1,none⟩ v1).setCell ⟨N,2,none⟩ v2).setCell ⟨N,3,none⟩ v3).setCell ⟨N,4,none⟩ v4).setCell ⟨N,5,none⟩ v5).setCell ⟨N,6,none⟩ v6) A v ns:=
 h.move (fun x hx=>hx) (fun x hx=>by
  have:=hA x hx
  iterate 7 rw[Below.heap_setCell _ _ _ _ (by simpa using this)])
theorem zmf (l:List (List UInt8)) (x:List UInt8) (h:l≠[]):S.zak (l++[x])=S.zak l++10::x.drop (S.indent x):=by
 induction l with
 | nil=>exact absurd rfl h
 | cons y r ih=>
  cases r with
  | nil=>simp[S.zak]
  | cons z t=>
   have:=ih (by simp)
   simp only[List.cons_append] at this ⊢
   simp only[S.zak,this,List.append_assoc,List.cons_append]
set_option maxRecDepth 100000 in
set_option maxHeartbeats 4000000 in
theorem zmn (C:List UInt8→List Rn→Prop) (hW:WOK C) (b o cap:Nat) (p0:Ln) (ts:List Ln) (w:World) (hrow:RowL w b o (p0::ts)) (hbw:b<w.heap.size) :
  Calls Tryz.prog 99 #[.slice (some ⟨b,o,none⟩) (ts.length+1) cap] w fun e w'=>∃ kv ns,e = .returned (.tuple #[zpi (.nd (S.za8 (datL (p0::ts))).1.kind (S.za8 (datL (p0::ts))).1.n [] [] 0 ns) kv,.int .i64 ((S.za8 (datL (p0::ts))).2:Nat)])∧RepN w' (fun x=>w.heap.size≤x∧x<w'.heap.size) kv ns∧Hid (C (S.za8 (datL (p0::ts))).1.text ns)∧Below w.heap.size w w':=by
 obtain ⟨W0,hW0,hb0,hz0,hx0⟩:=zma w
 have hlen:=hrow.len
 simp only[List.length_cons] at hlen
 have hrow0:=hrow.below hb0 hbw
 have hsz0:=hrow.size 0 p0 rfl
 have hdc:datL (p0::ts)=p0.1.data.toList::datL ts:=rfl
 have hJb:Hid (∀ k,(S.zak ((datL (p0::ts)).take k)).length≤1000000):=hid (fun k=>by
  rw[← zkt,zf5]
  have h1:=join_le (zce ((p0::ts).take k))
  have h2:=(hrow.take k).2
  rw[show dat (zce ((p0::ts).take k))=datL ((p0::ts).take k) from rfl] at h1
  omega)
 have hPS:Hid (∀ k,S.zc4 (datL ts)=k→∀ E,Lib.trimRightB (S.zak ((datL (p0::ts)).take (k+1))) 32=E→((datL ts)[k]?=none∨∃ x,(datL ts)[k]?=some x∧S.zac x=0)→S.za8 (datL (p0::ts))=(.mk 1 0 [] E false [],k+1)):=hid (fun k hk E hE h=>by
  unfold S.za8
  dsimp only
  rw[hdc,List.tail_cons,hk]
  rw[hdc] at hE
  rw[hE,List.getElem?_cons_succ]
  rcases h with h|⟨x,h,h2⟩
  ·rw[h]
  ·rw[h]
   dsimp only
   rw[if_neg (by omega)])
 have hPH:Hid (∀ k,S.zc4 (datL ts)=k→∀ E,Lib.trimRightB (S.zak ((datL (p0::ts)).take (k+1))) 32=E→∀ x,(datL ts)[k]?=some x→0<S.zac x→S.za8 (datL (p0::ts))=(.mk 2 (S.zac x) [] E false [],k+1+1)):=hid (fun k hk E hE x h h2=>by
  unfold S.za8
  dsimp only
  rw[hdc,List.tail_cons,hk]
  rw[hdc] at hE
  rw[hE,List.getElem?_cons_succ,h]
  dsimp only
  rw[if_pos h2])
 obtain ⟨PR,hPR⟩:∃ PR,S.za8 (datL (p0::ts))=PR:=⟨_,rfl⟩
 rw[hPR] at hPS hPH ⊢
 have hRe:=zfn p0.1 W0 hsz0
 have hc0:W0.cell? ⟨b,o,none⟩=some (.string p0.1):=by simpa using (hrow0.1 0 p0 rfl).1
 have hJ1:S.zak ((datL (p0::ts)).take (0+1))=p0.1.data.toList.drop (S.indent p0.1.data.toList):=by rw[hdc];rfl
 rw[← hJ1] at hRe
 have hReH:Hid (Calls Tryz.prog 128 #[.string p0.1] W0 fun e w'=>e = .returned (.string (S.B (S.zak ((datL (p0::ts)).take (0+1)))))∧W0=w'):=hid (hRe.mono (fun e w' ⟨h1,h2⟩=>⟨h1,h2.symm⟩))
 have hrowH:=hid hrow0
 have hWH:=hid hW
 have hx0H:=hid hx0
 have hb0H:=hid hb0
 have hW0H:=hid hW0
 have hbW0:b<W0.heap.size:=by omega
 have hwW0:w.heap.size<W0.heap.size:=by omega
 obtain ⟨s0,z0⟩:=p0
 dsimp only at hc0 hReH hsz0
 obtain ⟨RW,hRW⟩:∃ RW,datL (((s0,z0):Ln)::ts)=RW:=⟨_,rfl⟩
 have hRWg:Hid (∀ k x,(datL ts)[k]?=some x→RW.take (k+1+1)=RW.take (k+1)++[x]∧RW.take (k+1)≠[]):=hid (fun k x h=>by
  rw[← hRW,hdc]
  refine ⟨?_,by simp⟩
  rw[List.take_succ_cons,List.take_succ_cons,List.take_add_one,h];rfl)
 rw[hRW] at hPS hPH hReH hJb
 clear hW0 hb0 hx0 hrow hrow0 hz0 hRe hJ1 hdc hPR hW hRW
 go_enter Tryz.func99,Tryz.ntmps99
 go_upto_region 1 with fail
 rw[← hW0H.out]
 go_wp2_with fail
 refine hReH.out.mono ?_
 rintro e w' ⟨rfl,rfl⟩
 go_wp2
 go_loopw [4,5,6,7] (fun cv nv lv _ wr=>∃ k:Nat,k≤ts.length∧nv = .int .i64 ((k:Int)+1)∧lv = .int .i64 0∧cv = .string (S.B (S.zak (RW.take (k+1))))∧Hid ((∀ j,j<k→((datL ts)[j]?.map S.zcj)=some false)∧Below W0.heap.size W0 wr)) (fun _ nv _ _ _=>ts.length+1-(intOf nv).toNat)
 case atStart=>exact ⟨0,Nat.zero_le _,rfl,rfl,rfl,hid ⟨by intro j hj;omega,Below.refl _ _⟩⟩
 case round=>
  obtain ⟨k,hk,rfl,rfl,rfl,hrel'⟩:=hrel
  obtain ⟨hall,hbr⟩:=hrel'.out
  obtain ⟨wr0,hwr0⟩:∃ wr0,wr0=wr:=⟨_,rfl⟩
  subst hwr0
  have hJl:=hJb.out (k+1)
  have hbH:=hid hbr
  clear hrel'
  by_cases hlt:k<ts.length
  ·obtain ⟨p,hp⟩:∃ p,ts[k]?=some p:=⟨ts[k],List.getElem?_eq_getElem hlt⟩
   have hp1:(((s0,z0):Ln)::ts)[k+1]?=some p:=by simpa using hp
   have hc:=(hrowH.out.1 (k+1) p hp1).1
   have hsz:=hrowH.out.size (k+1) p hp1
   have hd:=zca ts k p hp
   have htk:=hRWg.out k _ hd
   obtain ⟨s,z⟩:=p
   dsimp only at hc hsz hd htk
   obtain ⟨lv,hlv⟩:∃ lv,S.zac s.data.toList=lv:=⟨_,rfl⟩
   obtain ⟨en,hen⟩:∃ en,S.zwd s.data.toList=en:=⟨_,rfl⟩
   have hUn:=zmp s wr0 hsz
   have hEd:=zva s wr0 hsz
   rw[hlv] at hUn
   rw[hen] at hEd
   have hpar:S.zcj s.data.toList=(decide (0<lv) || en):=by rw[S.zwc,hlv,hen]
   have hlvb:lv≤2:=by rw[← hlv];unfold S.zac;split;omega;split <;> omega
   have hbr0:b<wr0.heap.size:=Nat.lt_of_lt_of_le hbW0 hbr.size
   have hcr:wr0.cell? ⟨b,o+(k+1)*2,none⟩=some (.string s):=(hbr.cell (p:=⟨b,o+(k+1)*2,none⟩) hbW0).trans hc
   have hUH:Hid (Calls Tryz.prog 143 #[.string s] wr0 fun e w'=>e = .returned (.int .i64 (lv:Nat))∧wr0=w'):=hid (hUn.mono (fun e w' ⟨h1,h2⟩=>⟨h1,h2.symm⟩))
   have hEH:Hid (Calls Tryz.prog 144 #[.string s] wr0 fun e wQ=>e = .returned (.bool en)∧wQ.cell? ⟨b,o+(k+1)*2,none⟩=some (.string s)∧w.heap.size<wQ.heap.size∧Hid (Below W0.heap.size W0 wQ)):=hid (hEd.mono (fun e w' ⟨h1,h2⟩=>⟨h1,(h2.cell (p:=⟨b,o+(k+1)*2,none⟩) hbr0).trans hcr,by have:=h2.size;have:=hbH.out.size;omega,hid (hbH.out.trans (h2.mono hbH.out.size))⟩))
   have hJ0:(0:Int)≤(k:Int)+1:=by omega
   have hJ1:(k:Int)+1<(ts.length:Int)+1:=by omega
   have hton:((k:Int)+1).toNat=k+1:=by omega
   obtain ⟨J,hJ⟩:∃ J,S.zak (RW.take (k+1))=J:=⟨_,rfl⟩
   rw[hJ] at hJl ⊢
   obtain ⟨E,hE⟩:∃ E,Lib.trimRightB J 32=E:=⟨_,rfl⟩
   have hEl:E.length≤1000000:=by rw[← hE];have:=S.zci J 32;omega
   by_cases hl0:lv=0
   ·subst hl0
    cases en
    ·have hall':Hid (∀ j,j<k+1→((datL ts)[j]?.map S.zcj)=some false):=hid (by
      intro j hj;by_cases e:j=k
      ·subst e;rw[hd,Option.map_some,hpar];rfl
      ·exact hall j (by omega))
     have hRe2:=zfn s wr0 hsz
     obtain ⟨rs,hrs⟩:∃ rs,S.B (s.data.toList.drop (S.indent s.data.toList))=rs:=⟨_,rfl⟩
     have hReH2:Hid (∀ wx,Calls Tryz.prog 128 #[.string s] wx fun e w'=>e = .returned (.string rs)∧wx=w'):=hid (fun wx=>by
      have:=zfn s wx hsz
      rw[hrs] at this
      exact this.mono (fun e w' ⟨h1,h2⟩=>⟨h1,h2.symm⟩))
     have hJn:S.zak (RW.take (k+1+1))=J++10::s.data.toList.drop (S.indent s.data.toList):=by rw[htk.1,zmf _ _ htk.2,hJ]
     have hrsz:rs.size≤s.size:=by rw[← hrs,S.zbc,List.length_drop,S.length_data];omega
     obtain ⟨V1,hV1⟩:∃ V1,S.B J ++ ⟨#[10]⟩=V1:=⟨_,rfl⟩
     have hcc1:Op.stringOp .add (S.B J) ⟨#[10]⟩=pure (.string V1):=by rw[← hV1];exact zmm _ _ (by rw[S.zbc];show J.length+1≤_;omega)
     have hcc2:Op.stringOp .add V1 rs=pure (.string (S.B (S.zak (RW.take (k+1+1))))):=by
      rw[← hV1,zmm _ _ (by rw[ByteArray.size_append,S.zbc];show J.length+1+rs.size≤_;omega)]
      congr 2
      rw[hJn,← hrs]
      unfold S.B
      apply ByteArray.ext
      simp[ByteArray.data_append]
     obtain ⟨J2,hJ2⟩:∃ J2,S.zak (RW.take (k+1+1))=J2:=⟨_,rfl⟩
     rw[hJ2] at hcc2
     have hJ2H:=hid hJ2
     clear hall hbr hp hp1 hc hd htk hlv hen hUn hEd hpar hRe2 hrs hJn hV1 hJ hE hJ2
     go_wp2_with fail
     refine hUH.out.mono ?_
     rintro e w' ⟨rfl,rfl⟩
     go_wp2_with fail
     refine hEH.out.mono ?_
     rintro e wQ ⟨rfl,hcQ,hwQ,hbQ⟩
     go_wp2_with fail
     refine (hReH2.out wQ).mono ?_
     rintro e w' ⟨rfl,rfl⟩
     go_wp2
     go_roundw
     case rel=>exact ⟨k+1,by omega,by go_num,rfl,by rw[hJ2H.out],hid ⟨hall'.out,hbQ.out⟩⟩
     case measure=>simp[intOf];omega
    ·have hps:S.zc4 (datL ts)=k:=zfi _ k hall (by rw[hd,Option.map_some,hpar];simp)
     have hspec:=hid (hPS.out k hps E (by rw[hJ];exact hE) (.inr ⟨_,hd,hlv⟩))
     clear hall hbr hp hp1 hc hd htk hlv hen hUn hEd hpar hJ hps
     go_wp2_with fail
     refine hUH.out.mono ?_
     rintro e w' ⟨rfl,rfl⟩
     go_wp2_with fail
     refine hEH.out.mono ?_
     rintro e wQ ⟨rfl,hcQ,hwQ,hbQ0⟩
     have hxQ:=hid ((hbQ0.out.block w.heap.size hwW0).trans hx0H.out)
     have hbQ:=hid (hb0H.out.trans (hbQ0.out.mono (Nat.le_of_lt hwW0)))
     have hEn:Hid (Calls Tryz.prog 130 #[.string (S.B J)] wQ fun e w'=>e = .returned (.string (S.B E))∧wQ=w'):=hid (by
      have:=zfl (S.B J) wQ (by rw[S.zbc];exact hJl)
      rw[S.zcn,hE] at this
      exact this.mono (fun e w' ⟨h1,h2⟩=>⟨h1,h2.symm⟩))
     have hWi:=hid (hWH.out (S.B E) wQ (by rw[S.zbc];exact hEl))
     rw[S.zcn] at hWi
     go_wp2_with fail
     refine hEn.out.mono ?_
     rintro e w' ⟨rfl,rfl⟩
     go_wp2_with fail
     refine hWi.out.mono ?_
     rintro e w2 ⟨kv,ns,rfl,hrep,hC,hb2⟩
     obtain ⟨ka,kn,kc,rfl⟩:=hrep.form
     have hx2:=(hb2.block w.heap.size hwQ).trans hxQ.out
     have hw2:w.heap.size<w2.heap.size:=Nat.lt_of_lt_of_le hwQ hb2.size
     have d0:w2.cell? ⟨w.heap.size,0,none⟩=some (.int .i64 0):=za0 hx2 0 _ rfl
     have d1:w2.cell? ⟨w.heap.size,1,none⟩=some (.int .i64 0):=za0 hx2 1 _ rfl
     have d2:w2.cell? ⟨w.heap.size,2,none⟩=some (.int .i64 0):=za0 hx2 2 _ rfl
     have d3:w2.cell? ⟨w.heap.size,3,none⟩=some (.string ⟨#[]⟩):=za0 hx2 3 _ rfl
     have d4:w2.cell? ⟨w.heap.size,4,none⟩=some (.string ⟨#[]⟩):=za0 hx2 4 _ rfl
     have d5:w2.cell? ⟨w.heap.size,5,none⟩=some (.int .i64 0):=za0 hx2 5 _ rfl
     have d6:w2.cell? ⟨w.heap.size,6,none⟩=some (.slice none 0 0):=za0 hx2 6 _ rfl
     have g0:=za7 hx2
     have hz:=hid (set7 hx2 (.int .i64 0) (.int .i64 1) (.int .i64 0) (.string ⟨#[]⟩) (.string ⟨#[]⟩) (.int .i64 0) (.slice ka kn kc))
     have hbw2:Below w.heap.size w w2:=hbQ.out.trans (hb2.mono (Nat.le_of_lt hwQ))
     have hbz:=hid (zb7 (N:=w.heap.size) hbw2 (Nat.le_refl _) (.int .i64 0) (.int .i64 1) (.int .i64 0) (.string ⟨#[]⟩) (.string ⟨#[]⟩) (.int .i64 0) (.slice ka kn kc))
     have hrz:=hid (zcs hrep (N:=w.heap.size) (fun x hx e=>by have:=hx.1;omega) (.int .i64 0) (.int .i64 1) (.int .i64 0) (.string ⟨#[]⟩) (.string ⟨#[]⟩) (.int .i64 0) (.slice ka kn kc))
     have hbQs:w.heap.size≤wQ.heap.size:=Nat.le_of_lt hwQ
     clear hx2 hb2 hrep hbw2
     go_wp2
     refine bodyPost_ret (v:=.tuple #[.agg #[.int .i64 0,.int .i64 1,.int .i64 0,.string ⟨#[]⟩,.string ⟨#[]⟩,.int .i64 0,.slice ka kn kc],.int .i64 ((k:Int)+1)]) (by have z0:=za0 hz.out 0 _ rfl;have z1:=za0 hz.out 1 _ rfl;have z2:=za0 hz.out 2 _ rfl;have z3:=za0 hz.out 3 _ rfl;have z4:=za0 hz.out 4 _ rfl;have z5:=za0 hz.out 5 _ rfl;have z6:=za0 hz.out 6 _ rfl;simp[results,Tryz.results99,go_sem,z0,z1,z2,z3,z4,z5,z6]) rfl ?_
     exact ⟨.slice ka kn kc,ns,by rw[hspec.out];rfl,hrz.out.move (fun x hx=>⟨by have:=hx.1;omega,by rw[zhb];exact hx.2⟩) (fun _ _=>rfl),hid (by rw[hspec.out];exact hC.out),hbz.out⟩
   ·have hl1:(0:Int)<(lv:Int):=by omega
    have hps:S.zc4 (datL ts)=k:=zfi _ k hall (by rw[hd,Option.map_some,hpar,decide_eq_true (show 0<lv by omega)];simp)
    have hspec:=hPH.out k hps E (by rw[hJ];exact hE) _ hd (by omega)
    rw[hlv] at hspec
    obtain ⟨lvi,hlvi⟩:∃ lvi:Int,(lv:Int)=lvi:=⟨_,rfl⟩
    rw[hlvi] at hspec hUH hl1
    have hspec':=hid hspec
    clear hspec
    have hspec:=hspec'
    have hwr9:IntKind.i64.wrap ((k:Int)+1+1)=(k:Int)+1+1:=by rw[IntKind.wrap_i64];omega
    clear hspec' hall hbr hp hp1 hc hd htk hlv hen hUn hEd hpar hJ hps hlvi hl0 hlvb
    go_wp2_with fail
    refine hUH.out.mono ?_
    rintro e w' ⟨rfl,rfl⟩
    go_wp2_with fail
    refine hEH.out.mono ?_
    rintro e wQ ⟨rfl,hcQ,hwQ,hbQ0⟩
    have hxQ:=hid ((hbQ0.out.block w.heap.size hwW0).trans hx0H.out)
    have hbQ:=hid (hb0H.out.trans (hbQ0.out.mono (Nat.le_of_lt hwW0)))
    have hEn:Hid (Calls Tryz.prog 130 #[.string (S.B J)] wQ fun e w'=>e = .returned (.string (S.B E))∧wQ=w'):=hid (by
     have:=zfl (S.B J) wQ (by rw[S.zbc];exact hJl)
     rw[S.zcn,hE] at this
     exact this.mono (fun e w' ⟨h1,h2⟩=>⟨h1,h2.symm⟩))
    have hWi:=hid (hWH.out (S.B E) wQ (by rw[S.zbc];exact hEl))
    rw[S.zcn] at hWi
    go_wp2_with fail
    refine hEn.out.mono ?_
    rintro e w' ⟨rfl,rfl⟩
    go_wp2_with fail
    refine hWi.out.mono ?_
    rintro e w2 ⟨kv,ns,rfl,hrep,hC,hb2⟩
    obtain ⟨ka,kn,kc,rfl⟩:=hrep.form
    have hx2:=(hb2.block w.heap.size hwQ).trans hxQ.out
    have hw2:w.heap.size<w2.heap.size:=Nat.lt_of_lt_of_le hwQ hb2.size
    have d0:w2.cell? ⟨w.heap.size,0,none⟩=some (.int .i64 0):=za0 hx2 0 _ rfl
    have d1:w2.cell? ⟨w.heap.size,1,none⟩=some (.int .i64 0):=za0 hx2 1 _ rfl
    have d2:w2.cell? ⟨w.heap.size,2,none⟩=some (.int .i64 0):=za0 hx2 2 _ rfl
    have d3:w2.cell? ⟨w.heap.size,3,none⟩=some (.string ⟨#[]⟩):=za0 hx2 3 _ rfl
    have d4:w2.cell? ⟨w.heap.size,4,none⟩=some (.string ⟨#[]⟩):=za0 hx2 4 _ rfl
    have d5:w2.cell? ⟨w.heap.size,5,none⟩=some (.int .i64 0):=za0 hx2 5 _ rfl
    have d6:w2.cell? ⟨w.heap.size,6,none⟩=some (.slice none 0 0):=za0 hx2 6 _ rfl
    have g0:=za7 hx2
    have hz:=hid (set7 hx2 (.int .i64 0) (.int .i64 2) (.int .i64 lvi) (.string ⟨#[]⟩) (.string ⟨#[]⟩) (.int .i64 0) (.slice ka kn kc))
    have hbw2:Below w.heap.size w w2:=hbQ.out.trans (hb2.mono (Nat.le_of_lt hwQ))
    have hbz:=hid (zb7 (N:=w.heap.size) hbw2 (Nat.le_refl _) (.int .i64 0) (.int .i64 2) (.int .i64 lvi) (.string ⟨#[]⟩) (.string ⟨#[]⟩) (.int .i64 0) (.slice ka kn kc))
    have hrz:=hid (zcs hrep (N:=w.heap.size) (fun x hx e=>by have:=hx.1;omega) (.int .i64 0) (.int .i64 2) (.int .i64 lvi) (.string ⟨#[]⟩) (.string ⟨#[]⟩) (.int .i64 0) (.slice ka kn kc))
    have hbQs:w.heap.size≤wQ.heap.size:=Nat.le_of_lt hwQ
    clear hx2 hb2 hrep hbw2
    go_wp2
    refine bodyPost_ret (v:=.tuple #[.agg #[.int .i64 0,.int .i64 2,.int .i64 lvi,.string ⟨#[]⟩,.string ⟨#[]⟩,.int .i64 0,.slice ka kn kc],.int .i64 ((k:Int)+1+1)]) (by have z0:=za0 hz.out 0 _ rfl;have z1:=za0 hz.out 1 _ rfl;have z2:=za0 hz.out 2 _ rfl;have z3:=za0 hz.out 3 _ rfl;have z4:=za0 hz.out 4 _ rfl;have z5:=za0 hz.out 5 _ rfl;have z6:=za0 hz.out 6 _ rfl;simp[results,Tryz.results99,go_sem,z0,z1,z2,z3,z4,z5,z6]) rfl ?_
    exact ⟨.slice ka kn kc,ns,by rw[hspec.out];rfl,hrz.out.move (fun x hx=>⟨by have:=hx.1;omega,by rw[zhb];exact hx.2⟩) (fun _ _=>rfl),hid (by rw[hspec.out];exact hC.out),hbz.out⟩
  ·have hke:k=ts.length:=by omega
   subst hke
   have hps:S.zc4 (datL ts)=ts.length:=zfi _ _ hall (by rw[List.getElem?_eq_none (by rw[zaq];exact Nat.le_refl _)];simp)
   obtain ⟨J,hJ⟩:∃ J,S.zak (RW.take (ts.length+1))=J:=⟨_,rfl⟩
   rw[hJ] at hJl ⊢
   obtain ⟨E,hE⟩:∃ E,Lib.trimRightB J 32=E:=⟨_,rfl⟩
   have hEl:E.length≤1000000:=by rw[← hE];have:=S.zci J 32;omega
   have hspec:=hid (hPS.out ts.length hps E (by rw[hJ];exact hE) (.inl (List.getElem?_eq_none (by rw[zaq];exact Nat.le_refl _))))
   have hJ1:¬ (ts.length:Int)+1<(ts.length:Int)+1:=by omega
   have hwQ:w.heap.size<wr0.heap.size:=Nat.lt_of_lt_of_le hwW0 hbr.size
   have hxQ:=hid ((hbr.block w.heap.size hwW0).trans hx0H.out)
   have hbQ:=hid (hb0H.out.trans (hbr.mono (Nat.le_of_lt hwW0)))
   obtain ⟨wQ,hwQ2⟩:∃ wQ,wQ=wr0:=⟨_,rfl⟩
   subst hwQ2
   clear hall hbr hJ hps
   have hEn:Hid (Calls Tryz.prog 130 #[.string (S.B J)] wQ fun e w'=>e = .returned (.string (S.B E))∧wQ=w'):=hid (by
    have:=zfl (S.B J) wQ (by rw[S.zbc];exact hJl)
    rw[S.zcn,hE] at this
    exact this.mono (fun e w' ⟨h1,h2⟩=>⟨h1,h2.symm⟩))
   have hWi:=hid (hWH.out (S.B E) wQ (by rw[S.zbc];exact hEl))
   rw[S.zcn] at hWi
   go_wp2_with fail
   refine hEn.out.mono ?_
   rintro e w' ⟨rfl,rfl⟩
   go_wp2_with fail
   refine hWi.out.mono ?_
   rintro e w2 ⟨kv,ns,rfl,hrep,hC,hb2⟩
   obtain ⟨ka,kn,kc,rfl⟩:=hrep.form
   have hx2:=(hb2.block w.heap.size hwQ).trans hxQ.out
   have hw2:w.heap.size<w2.heap.size:=Nat.lt_of_lt_of_le hwQ hb2.size
   have d0:w2.cell? ⟨w.heap.size,0,none⟩=some (.int .i64 0):=za0 hx2 0 _ rfl
   have d1:w2.cell? ⟨w.heap.size,1,none⟩=some (.int .i64 0):=za0 hx2 1 _ rfl
   have d2:w2.cell? ⟨w.heap.size,2,none⟩=some (.int .i64 0):=za0 hx2 2 _ rfl
   have d3:w2.cell? ⟨w.heap.size,3,none⟩=some (.string ⟨#[]⟩):=za0 hx2 3 _ rfl
   have d4:w2.cell? ⟨w.heap.size,4,none⟩=some (.string ⟨#[]⟩):=za0 hx2 4 _ rfl
   have d5:w2.cell? ⟨w.heap.size,5,none⟩=some (.int .i64 0):=za0 hx2 5 _ rfl
   have d6:w2.cell? ⟨w.heap.size,6,none⟩=some (.slice none 0 0):=za0 hx2 6 _ rfl
   have g0:=za7 hx2
   have hz:=hid (set7 hx2 (.int .i64 0) (.int .i64 1) (.int .i64 0) (.string ⟨#[]⟩) (.string ⟨#[]⟩) (.int .i64 0) (.slice ka kn kc))
   have hbw2:Below w.heap.size w w2:=hbQ.out.trans (hb2.mono (Nat.le_of_lt hwQ))
   have hbz:=hid (zb7 (N:=w.heap.size) hbw2 (Nat.le_refl _) (.int .i64 0) (.int .i64 1) (.int .i64 0) (.string ⟨#[]⟩) (.string ⟨#[]⟩) (.int .i64 0) (.slice ka kn kc))
   have hrz:=hid (zcs hrep (N:=w.heap.size) (fun x hx e=>by have:=hx.1;omega) (.int .i64 0) (.int .i64 1) (.int .i64 0) (.string ⟨#[]⟩) (.string ⟨#[]⟩) (.int .i64 0) (.slice ka kn kc))
   have hbQs:w.heap.size≤wQ.heap.size:=Nat.le_of_lt hwQ
   clear hx2 hb2 hrep hbw2
   go_wp2
   refine bodyPost_ret (v:=.tuple #[.agg #[.int .i64 0,.int .i64 1,.int .i64 0,.string ⟨#[]⟩,.string ⟨#[]⟩,.int .i64 0,.slice ka kn kc],.int .i64 ((ts.length:Int)+1)]) (by have z0:=za0 hz.out 0 _ rfl;have z1:=za0 hz.out 1 _ rfl;have z2:=za0 hz.out 2 _ rfl;have z3:=za0 hz.out 3 _ rfl;have z4:=za0 hz.out 4 _ rfl;have z5:=za0 hz.out 5 _ rfl;have z6:=za0 hz.out 6 _ rfl;simp[results,Tryz.results99,go_sem,z0,z1,z2,z3,z4,z5,z6]) rfl ?_
   exact ⟨.slice ka kn kc,ns,by rw[hspec.out];rfl,hrz.out.move (fun x hx=>⟨by have:=hx.1;omega,by rw[zhb];exact hx.2⟩) (fun _ _=>rfl),hid (by rw[hspec.out];exact hC.out),hbz.out⟩
def zcq (k:Int) (t:List UInt8) (lo:Bool):List UInt8:=if k=3 then t else if k=6 then (if lo=true then [108,111,111,115,101] else [116,105,103,104,116]) else []
mutual
def MatB (C:List UInt8→List Rn→Prop) (z:Int):S.Blk→Rn→Prop
 | .at_ li k n i t lo ks,.nd k' n' i' t' l' ks'=>k'=k∧n'=n∧i'=i∧t'=zcq k t lo∧l'=z+li∧(if k=1∨k=2 then C t ks' else MatL C (z+li) ks ks')
def MatL (C:List UInt8→List Rn→Prop) (z:Int):List S.Blk→List Rn→Prop
 | [],[]=>True
 | b::r,n::s=>MatB C z b n∧MatL C z r s
 | [],_::_=>False
 | _::_,[]=>False
end
theorem MatL.append {C:List UInt8→List Rn→Prop} {z:Int} {a b:List S.Blk} {c d:List Rn} (h:MatL C z a c) (h2:MatL C z b d):MatL C z (a++b) (c++d):=by
 induction a generalizing c with
 | nil=>
  cases c with
  | nil=>exact h2
  | cons x r=>simp only[MatL] at h
 | cons y r ih=>
  cases c with
  | nil=>simp only[MatL] at h
  | cons x s=>
   simp only[MatL,List.cons_append] at h ⊢
   exact ⟨h.1,ih h.2⟩
def KidB (C:List UInt8→List Rn→Prop) (z:Int) (b:S.Blk) (ns:List Rn):Prop:=if b.kind=1∨b.kind=2 then C b.text ns else MatL C z b.kids ns
theorem zx7 {C:List UInt8→List Rn→Prop} {z k:Int} {b:S.Blk} {ns:List Rn} (h:KidB C (z+k) b ns):MatB C z (b.put k) (.nd b.kind b.n b.info (zcq b.kind b.text b.loose) (z+k) ns):=by
 cases b
 simp only[S.Blk.put,MatB]
 exact ⟨rfl,rfl,rfl,rfl,trivial,h⟩
def ROK (C:List UInt8→List Rn→Prop) (d:Nat):Prop:=∀ (b o cap:Nat) (ls:List Ln) (z:Int) (w:World),ls.length≤cap→b<w.heap.size→RowL w b o ls→Num z ls→bytes (datL ls)<d →
 Calls Tryz.prog 47 #[.slice (some ⟨b,o,none⟩) ls.length cap] w fun e w'=>∃ v ns,e = .returned (.tuple #[v,.bool (S.za2 d (datL ls)).2])∧RepN w' (fun x=>w.heap.size≤x∧x<w'.heap.size) v ns∧Hid (MatL C z (S.za2 d (datL ls)).1 ns)∧Below w.heap.size w w'
theorem Num.z1a {z:Int} {l:List Ln} (h:Num z l) (s:ByteArray) (y:Int) (hy:y=z+(l.length:Int)):Num z (l++[(s,y)]):=by
 intro i p hi
 by_cases hl:i<l.length
 ·rw[List.getElem?_append_left hl] at hi;exact h i p hi
 ·rw[List.getElem?_append_right (by omega)] at hi
  have hi0:i-l.length=0:=by have:=(List.getElem?_eq_some_iff.1 hi).1;simp at this;omega
  rw[hi0] at hi
  simp at hi
  subst hi
  show y=_
  omega
theorem zs9 (l:List (List UInt8)) (k:Nat) (h:∀ j,j<k→(l[j]?.map S.zar)=some true) (he:(l[k]?.map S.zar)≠some true):S.zad l=(l.take k).map S.zcv:=by
 induction l generalizing k with
 | nil=>simp[S.zad]
 | cons x r ih=>
  cases k with
  | zero=>
   have:¬ S.zar x=true:=by simpa using he
   simp[S.zad,this]
  | succ k=>
   have h0:S.zar x=true:=by simpa using h 0 (by omega)
   rw[S.zad,if_pos h0,ih k (fun j hj=>by simpa using h (j+1) (by omega)) (by simpa using he)]
   rfl
theorem zkg (l:List Ln) (p:Ln):tot (zce (l++[p]))=tot (zce l)+(p.1.size+1):=by simp[tot,zce]
structure QRel (w W0:World) (ls:List Ln) (z:Int) (k:Nat) (os:List Ln) (a:Option Addr) (cp:Nat) (wr:World):Prop where
 len:os.length=k
 all:∀ j,j<k→((datL ls)[j]?.map S.zar)=some true
 spec:datL os=((datL ls).take k).map S.zcv
 small:tot (zce os)≤tot (zce (ls.take k))
 num:Num z os
 own:wr.ownsRow W0.heap.size 116 2 (.slice a os.length cp) os.length (zbx os)
 below:Below W0.heap.size W0 wr
set_option maxRecDepth 100000 in
set_option maxHeartbeats 4000000 in
theorem zu0 (C:List UInt8→List Rn→Prop) (d:Nat) (hR:ROK C d) (b o cap:Nat) (ls:List Ln) (z:Int) (w:World) (hrow:RowL w b o ls) (hnum:Num z ls) (hbw:b<w.heap.size) (hq0:((datL ls)[0]?.map S.zar)=some true) (hd:bytes (S.zad (datL ls))<d) :
  Calls Tryz.prog 97 #[.slice (some ⟨b,o,none⟩) ls.length cap] w fun e w'=>∃ kv ns,e = .returned (.tuple #[zpi (.nd 5 0 [] [] 0 ns) kv,.int .i64 ((S.zad (datL ls)).length:Nat)])∧RepN w' (fun x=>w.heap.size≤x∧x<w'.heap.size) kv ns∧Hid (MatL C z (S.za2 d (S.zad (datL ls))).1 ns)∧Below w.heap.size w w':=by
 obtain ⟨i0,hi,hi0,hi1,hi2⟩:=info_parts Tryz.zo2
 obtain ⟨W0,hW0,hb0,hz0,hx0⟩:=zma w
 have hlen:=hrow.len
 have htot:=hrow.2
 have hrow0:=hrow.below hb0 hbw
 have hrowH:=hid hrow0
 have hnumH:=hid hnum
 have hRH:=hid hR
 have hx0H:=hid hx0
 have hb0H:=hid hb0
 have hW0H:=hid hW0
 have hq0H:=hid hq0
 have hdH:=hid hd
 have hbW0:b<W0.heap.size:=by omega
 have hwW0:w.heap.size<W0.heap.size:=by omega
 clear hW0 hb0 hx0 hrow hrow0 hz0 hR hq0 hd hnum
 go_enter Tryz.func97,Tryz.ntmps97
 go_upto_region 1 with fail
 rw[← hW0H.out]
 go_wp2
 go_loopw [4,5,6,7] (fun rv nv _ _ wr=>∃ (k n':Nat) (a:Option Addr) (cp:Nat),k≤ls.length∧nv = .int .i64 k∧rv = .slice a n' cp∧Hid (∃ os,n'=os.length∧QRel w W0 ls z k os a cp wr)) (fun _ nv _ _ _=>ls.length-(intOf nv).toNat)
 case atStart=>exact ⟨0,0,none,0,Nat.zero_le _,rfl,rfl,hid ⟨[],rfl,rfl,by intro j hj;omega,by simp[datL,dat,zce],by simp[tot,zce],fun i p h=>by simp at h,World.ownsRow_nil _ _ _ _,Below.refl _ _⟩⟩
 case round=>
  obtain ⟨k,n',a,cp,hk,rfl,rfl,hrel'⟩:=hrel
  obtain ⟨os,hn',hr0⟩:=hrel'.out
  subst hn'
  have hr:=hid hr0
  have hbr0:b<wr.heap.size:=Nat.lt_of_lt_of_le hbW0 hr0.below.size
  have hzr:W0.heap.size≤wr.heap.size:=hr0.below.size
  have hosl:os.length+1≤1000001:=by have:=hr0.len;omega
  clear hrel' hr0
  by_cases hgo:((datL ls)[k]?.map S.zar)=some true
  ·have hlt:k<ls.length:=by
    rcases Nat.lt_or_ge k ls.length with h|h
    ·exact h
    ·rw[List.getElem?_eq_none (by rw[zaq];exact h)] at hgo;simp at hgo
   obtain ⟨p,hp⟩:∃ p,ls[k]?=some p:=⟨ls[k],List.getElem?_eq_getElem hlt⟩
   have hd:=zca ls k p hp
   rw[hd,Option.map_some] at hgo
   have hq:S.zar p.1.data.toList=true:=Option.some.inj hgo
   have hcA:=(hrowH.out.1 k p hp).1
   have hcB:=(hrowH.out.1 k p hp).2
   have hsz:=hrowH.out.size k p hp
   have hny:=hnumH.out k p hp
   obtain ⟨s,y⟩:=p
   dsimp only at hd hq hcA hcB hsz hny
   have hshape:∃ t,S.shallow s.data.toList=62::t:=by
    unfold S.zar Lib.hasPrefix at hq
    cases hsh:S.shallow s.data.toList with
    | nil=>rw[hsh] at hq;simp at hq
    | cons c t=>rw[hsh] at hq;simp at hq;subst hq;exact ⟨t,rfl⟩
   obtain ⟨t,hsh⟩:=hshape
   obtain ⟨r,hrd,hrs,_,hle,_,_,hRr⟩:=zr6 s hsz 62 t hsh
   obtain ⟨u,hu⟩:∃ u,S.B (S.zcv s.data.toList)=u:=⟨_,rfl⟩
   obtain ⟨s1,hs1⟩:∃ s1,r.extract 1 r.size=s1:=⟨_,rfl⟩
   have hs1d:s1.data.toList=t:=by rw[← hs1,S.zbf,hrd];rfl
   have hud:S.zcv s.data.toList=Lib.trimPrefix t [32]:=by unfold S.zcv;rw[hsh];rfl
   have hus:u.size≤s.size:=by
    rw[← hu,S.zbc,hud]
    have:(Lib.trimPrefix t [32]).length≤t.length:=by unfold Lib.trimPrefix;split <;> simp
    omega
   have hQ:=zfr s wr hsz
   rw[hq] at hQ
   have hQH:Hid (Calls Tryz.prog 92 #[.string s] wr fun e w'=>e = .returned (.bool true)∧wr=w'):=hid (hQ.mono (fun e w' ⟨h1,h2⟩=>⟨h1,h2.symm⟩))
   have hRrH:=hid (hRr wr)
   have hbr:=hr.out.below
   have hcr:wr.cell? ⟨b,o+k*2,none⟩=some (.string s):=(hbr.cell (p:=⟨b,o+k*2,none⟩) hbW0).trans hcA
   have hcy:wr.cell? ⟨b,o+k*2+1,none⟩=some (.int .i64 y):=(hbr.cell (p:=⟨b,o+k*2+1,none⟩) hbW0).trans hcB
   have hJ0:(0:Int)≤(k:Int):=by omega
   have hJ1:(k:Int)<(ls.length:Int):=by omega
   have hJ2:(1:Int)≤(r.size:Int):=by omega
   have hown2:=hid (fun ob=>hr.out.own.alloc ob)
   have hnew:Hid (∀ j v,([Value.string u,.int .i64 y]:List Value)[j]?=some v→(wr.alloc (.cells #[.string u,.int .i64 y] 116)).cell? ((⟨wr.heap.size,0,none⟩:Addr).add j)=some v):=hid (fun j v hj=>World.news_of_block (za1 _ _) j v (by exact hj))
   have hone:Hid (∀ v∈([Value.string u,.int .i64 y]:List Value),v.oneCell'=true):=hid (by
    intro v hv;simp at hv;rcases hv with rfl|rfl <;> rfl)
   have hstep:Hid (∀ ob g cap1 w1,w1.ownsRow W0.heap.size 116 2 (.slice (some ⟨g,0,none⟩) (os.length+1) cap1) (os.length+1) (zbx os++[.string u,.int .i64 y])→(wr.alloc ob).grownBy w1 (Value.slice a os.length cp).ownBlock→QRel w W0 ls z (k+1) (os++[(u,y)]) (some ⟨g,0,none⟩) cap1 w1):=hid (fun ob g cap1 w1 ho hgw=>by
    have hlt0:=hr.out.own.lt
    refine ⟨by rw[List.length_append,hr.out.len];rfl,?_,?_,?_,hr.out.num.z1a u y (by rw[hr.out.len];exact hny),?_,?_⟩
    ·intro j hj
     by_cases e:j=k
     ·subst e;rw[hd,Option.map_some,hq]
     ·exact hr.out.all j (by omega)
    ·rw[List.take_add_one,hd]
     simp only[Option.toList_some,List.map_append,List.map_cons,List.map_nil,← hr.out.spec]
     rw[← hu]
     simp[datL,dat,zce,S.zcn]
    ·have e:ls.take (k+1)=ls.take k++[(s,y)]:=by rw[List.take_add_one,hp];rfl
     rw[e,zkg,zkg]
     have:=hr.out.small
     dsimp only
     omega
    ·rw[List.length_append,zet];exact ho
    ·exact Below.grown (hr.out.below.alloc hzr ob) hgw (by simp;omega) (fun q hq=>(hlt0 q hq).1))
   have hsH:=hid hs1
   have hs1dH:=hid hs1d
   have hudH:=hid hud
   have huH:=hid hu
   clear hp hd hgo hq hcA hcB hsh hrd hRr hs1d hud hu hQ hbr hny hrs
   go_wp2_with fail
   refine hQH.out.mono ?_
   rintro e w' ⟨rfl,rfl⟩
   go_wp2_with fail
   refine hRrH.out.mono ?_
   rintro e w' ⟨rfl,rfl⟩
   go_upto_region 7 with fail
   obtain ⟨cd,hcd⟩:∃ cd:Bool,Lib.hasPrefix t [32]=cd:=⟨_,rfl⟩
   have hcdH:=hid hcd
   clear hcd hs1
   go_cut [35] (fun s35 wx=>s35 = .bool cd∧wr=wx)
   case first=>
    cases t with
    | nil=>
     have he:Hid (cd=false):=hid (by rw[← hcdH.out];rfl)
     have e1:s1.toList=[]:=by
      have:=hs1dH.out
      rw[ByteArray.toList_eq];exact this
     go_wp2
     go_meet
     exact ⟨by rw[he.out],rfl⟩
    | cons x t'=>
     have h0:0<s1.size:=by rw[← S.length_data,hs1dH.out];simp
     have hx:s1[0]=x:=by
      have h1:=S.zaf s1 0 h0
      rw[hs1dH.out] at h1
      simpa using h1.symm
     have e1:¬ s1.toList=[]:=by
      have:=hs1dH.out
      rw[ByteArray.toList_eq,this];simp
     have e3:Hid (s1.toList.isEmpty=false):=hid (by
      cases h:s1.toList with
      | nil=>exact absurd h e1
      | cons _ _=>rfl)
     have h0':(0:Int)<(s1.size:Int):=by omega
     by_cases hx2:x=32
     ·have he:Hid (cd=true):=hid (by rw[← hcdH.out,hx2];rfl)
      have e2:((s1[0].toNat:Int) == 32)=true:=by rw[hx,hx2];rfl
      clear hx
      go_wp2
      go_meet
      exact ⟨by rw[he.out,e3.out];rfl,rfl⟩
     ·have he:Hid (cd=false):=hid (by rw[← hcdH.out];show ((32 == x) && _)=false;rw[beq_eq_false_iff_ne.2 (Ne.symm hx2)];rfl)
      have e2:((s1[0].toNat:Int) == 32)=false:=by
       rw[beq_eq_false_iff_ne,hx];intro e;exact hx2 (UInt8.toNat_inj.1 (by show x.toNat=32;omega))
      clear hx
      go_wp2
      go_meet
      exact ⟨by rw[he.out],rfl⟩
   case rest=>
   obtain ⟨rfl,rfl⟩:=hcut
   go_upto_if 35 with fail
   go_cut [7] (fun s7 wx=>s7 = .string u∧wr=wx)
   case first=>
    cases cd
    ·have he:Hid (s1=u):=hid (by
      rw[← huH.out,hudH.out,Lib.trimPrefix,if_neg (by rw[hcdH.out];simp),← hs1dH.out,S.zbq])
     go_wp2
     go_meet
     exact ⟨by rw[he.out],rfl⟩
    ·have h1:(1:Int)≤(s1.size:Int):=by
      have:=hcdH.out
      cases t with
      | nil=>cases this
      | cons x t'=>have h:=S.length_data s1;rw[hs1dH.out] at h;simp at h;omega
     have he:s1.extract 1 s1.size=u:=by
      apply ByteArray.ext
      apply Array.toList_inj.1
      rw[S.zbf,hs1dH.out,← huH.out,hudH.out,Lib.trimPrefix,if_pos hcdH.out,S.zcn]
      rfl
     go_wp2
     go_meet
     exact ⟨by first|rfl|rw[he],rfl⟩
   case rest=>
   obtain ⟨rfl,rfl⟩:=hcut
   go_wp2_with (at_builtin;refine wpList_append_lies _ (by rfl) _ _ 83 (by rfl) W0.heap.size 116 i0 (.agg #[.string ⟨#[]⟩,.int .i64 0]) 2 24 Tryz.underlying83 hi hi0 hi1 hi2 (by rfl) (by omega) (.slice a os.length cp) os.length (zbx os) (by rfl) (hown2.out _) ⟨wr.heap.size,0,none⟩ 1 1 [.string u,.int .i64 y] (by rfl) (by rfl) hnew.out hone.out (by omega) (by unfold maxLen;omega) (by omega) (by simp;omega) (wr.heap.size+1) (by simp) ?_)
   intro g cap1 w1 hown1 hgrow hat hltg
   have hR:=hid (hstep.out _ g cap1 w1 hown1 hgrow)
   clear hown1 hgrow hat hltg
   go_wp2
   go_roundw
   case rel=>exact ⟨k+1,os.length+1,some ⟨g,0,none⟩,cap1,by omega,by go_num,rfl,hid ⟨os++[(u,y)],by simp,hR.out⟩⟩
   case measure=>simp[intOf];omega
  ·have hqk:=zs9 (datL ls) k hr.out.all hgo
   have hspec:Hid (S.zad (datL ls)=datL os):=hid (by rw[hqk,hr.out.spec])
   have hlenQ:Hid ((S.zad (datL ls)).length=k):=hid (by rw[hspec.out,zaq,hr.out.len])
   have hpos:0<os.length:=by
    rw[hr.out.len]
    rcases Nat.eq_zero_or_pos k with h|h
    ·rw[h] at hgo;exact absurd hq0H.out hgo
    ·exact h
   obtain ⟨g,rfl,hg0,hg1,hcp,hRow⟩:=zrs hr.out.own (by have:=hr.out.small;have:=(hrowH.out.take k).2;omega) hpos
   have hB:=hid (hRH.out g 0 cp os z wr hcp hg1 hRow hr.out.num (by rw[← hspec.out];exact hdH.out))
   have hwQ:w.heap.size<wr.heap.size:=Nat.lt_of_lt_of_le hwW0 hzr
   have hxQ:=hid ((hr.out.below.block w.heap.size hwW0).trans hx0H.out)
   have hbQ:=hid (hb0H.out.trans (hr.out.below.mono (Nat.le_of_lt hwW0)))
   by_cases hlt:k<ls.length
   ·obtain ⟨p,hp⟩:∃ p,ls[k]?=some p:=⟨ls[k],List.getElem?_eq_getElem hlt⟩
    have hd:=zca ls k p hp
    rw[hd,Option.map_some] at hgo
    have hq:S.zar p.1.data.toList=false:=by
     cases h:S.zar p.1.data.toList
     ·rfl
     ·rw[h] at hgo;exact absurd rfl hgo
    have hcA:=(hrowH.out.1 k p hp).1
    have hsz:=hrowH.out.size k p hp
    obtain ⟨s,y⟩:=p
    dsimp only at hd hq hcA hsz
    have hQ:=zfr s wr hsz
    rw[hq] at hQ
    have hQH:Hid (Calls Tryz.prog 92 #[.string s] wr fun e w'=>e = .returned (.bool false)∧wr=w'):=hid (hQ.mono (fun e w' ⟨h1,h2⟩=>⟨h1,h2.symm⟩))
    have hcr:wr.cell? ⟨b,o+k*2,none⟩=some (.string s):=(hr.out.below.cell (p:=⟨b,o+k*2,none⟩) hbW0).trans hcA
    have hJ0:(0:Int)≤(k:Int):=by omega
    have hJ1:(k:Int)<(ls.length:Int):=by omega
    clear hqk hgo hd hq hcA hQ hp hRow hg0 hg1 hcp
    go_wp2_with fail
    refine hQH.out.mono ?_
    rintro e w' ⟨rfl,rfl⟩
    go_wp2_with fail
    refine hB.out.mono ?_
    rintro e w2 ⟨kv,ns,rfl,hrep,hM,hb2⟩
    obtain ⟨ka,kn,kc,rfl⟩:=hrep.form
    have hx2:=(hb2.block w.heap.size hwQ).trans hxQ.out
    have hw2:w.heap.size<w2.heap.size:=Nat.lt_of_lt_of_le hwQ hb2.size
    have d0:w2.cell? ⟨w.heap.size,0,none⟩=some (.int .i64 0):=za0 hx2 0 _ rfl
    have d1:w2.cell? ⟨w.heap.size,1,none⟩=some (.int .i64 0):=za0 hx2 1 _ rfl
    have d2:w2.cell? ⟨w.heap.size,2,none⟩=some (.int .i64 0):=za0 hx2 2 _ rfl
    have d3:w2.cell? ⟨w.heap.size,3,none⟩=some (.string ⟨#[]⟩):=za0 hx2 3 _ rfl
    have d4:w2.cell? ⟨w.heap.size,4,none⟩=some (.string ⟨#[]⟩):=za0 hx2 4 _ rfl
    have d5:w2.cell? ⟨w.heap.size,5,none⟩=some (.int .i64 0):=za0 hx2 5 _ rfl
    have d6:w2.cell? ⟨w.heap.size,6,none⟩=some (.slice none 0 0):=za0 hx2 6 _ rfl
    have g0:=za7 hx2
    have hz:=hid (set7 hx2 (.int .i64 0) (.int .i64 5) (.int .i64 0) (.string ⟨#[]⟩) (.string ⟨#[]⟩) (.int .i64 0) (.slice ka kn kc))
    have hbw2:Below w.heap.size w w2:=hbQ.out.trans (hb2.mono (Nat.le_of_lt hwQ))
    have hbz:=hid (zb7 (N:=w.heap.size) hbw2 (Nat.le_refl _) (.int .i64 0) (.int .i64 5) (.int .i64 0) (.string ⟨#[]⟩) (.string ⟨#[]⟩) (.int .i64 0) (.slice ka kn kc))
    have hrz:=hid (zcs hrep (N:=w.heap.size) (fun x hx e=>by have:=hx.1;omega) (.int .i64 0) (.int .i64 5) (.int .i64 0) (.string ⟨#[]⟩) (.string ⟨#[]⟩) (.int .i64 0) (.slice ka kn kc))
    have hbQs:w.heap.size≤wr.heap.size:=Nat.le_of_lt hwQ
    clear hx2 hb2 hrep hbw2
    go_wp2
    refine bodyPost_ret (v:=.tuple #[.agg #[.int .i64 0,.int .i64 5,.int .i64 0,.string ⟨#[]⟩,.string ⟨#[]⟩,.int .i64 0,.slice ka kn kc],.int .i64 (k:Int)]) (by have z0:=za0 hz.out 0 _ rfl;have z1:=za0 hz.out 1 _ rfl;have z2:=za0 hz.out 2 _ rfl;have z3:=za0 hz.out 3 _ rfl;have z4:=za0 hz.out 4 _ rfl;have z5:=za0 hz.out 5 _ rfl;have z6:=za0 hz.out 6 _ rfl;simp[results,Tryz.results97,go_sem,z0,z1,z2,z3,z4,z5,z6]) rfl ?_
    exact ⟨.slice ka kn kc,ns,by rw[hlenQ.out];rfl,hrz.out.move (fun x hx=>⟨by have:=hx.1;omega,by rw[zhb];exact hx.2⟩) (fun _ _=>rfl),hid (by rw[hspec.out];exact hM.out),hbz.out⟩
   ·have hJ1:¬ (k:Int)<(ls.length:Int):=by omega
    clear hqk hgo hRow hg0 hg1 hcp
    go_wp2_with fail
    refine hB.out.mono ?_
    rintro e w2 ⟨kv,ns,rfl,hrep,hM,hb2⟩
    obtain ⟨ka,kn,kc,rfl⟩:=hrep.form
    have hx2:=(hb2.block w.heap.size hwQ).trans hxQ.out
    have hw2:w.heap.size<w2.heap.size:=Nat.lt_of_lt_of_le hwQ hb2.size
    have d0:w2.cell? ⟨w.heap.size,0,none⟩=some (.int .i64 0):=za0 hx2 0 _ rfl
    have d1:w2.cell? ⟨w.heap.size,1,none⟩=some (.int .i64 0):=za0 hx2 1 _ rfl
    have d2:w2.cell? ⟨w.heap.size,2,none⟩=some (.int .i64 0):=za0 hx2 2 _ rfl
    have d3:w2.cell? ⟨w.heap.size,3,none⟩=some (.string ⟨#[]⟩):=za0 hx2 3 _ rfl
    have d4:w2.cell? ⟨w.heap.size,4,none⟩=some (.string ⟨#[]⟩):=za0 hx2 4 _ rfl
    have d5:w2.cell? ⟨w.heap.size,5,none⟩=some (.int .i64 0):=za0 hx2 5 _ rfl
    have d6:w2.cell? ⟨w.heap.size,6,none⟩=some (.slice none 0 0):=za0 hx2 6 _ rfl
    have g0:=za7 hx2
    have hz:=hid (set7 hx2 (.int .i64 0) (.int .i64 5) (.int .i64 0) (.string ⟨#[]⟩) (.string ⟨#[]⟩) (.int .i64 0) (.slice ka kn kc))
    have hbw2:Below w.heap.size w w2:=hbQ.out.trans (hb2.mono (Nat.le_of_lt hwQ))
    have hbz:=hid (zb7 (N:=w.heap.size) hbw2 (Nat.le_refl _) (.int .i64 0) (.int .i64 5) (.int .i64 0) (.string ⟨#[]⟩) (.string ⟨#[]⟩) (.int .i64 0) (.slice ka kn kc))
    have hrz:=hid (zcs hrep (N:=w.heap.size) (fun x hx e=>by have:=hx.1;omega) (.int .i64 0) (.int .i64 5) (.int .i64 0) (.string ⟨#[]⟩) (.string ⟨#[]⟩) (.int .i64 0) (.slice ka kn kc))
    have hbQs:w.heap.size≤wr.heap.size:=Nat.le_of_lt hwQ
    clear hx2 hb2 hrep hbw2
    go_wp2
    refine bodyPost_ret (v:=.tuple #[.agg #[.int .i64 0,.int .i64 5,.int .i64 0,.string ⟨#[]⟩,.string ⟨#[]⟩,.int .i64 0,.slice ka kn kc],.int .i64 (k:Int)]) (by have z0:=za0 hz.out 0 _ rfl;have z1:=za0 hz.out 1 _ rfl;have z2:=za0 hz.out 2 _ rfl;have z3:=za0 hz.out 3 _ rfl;have z4:=za0 hz.out 4 _ rfl;have z5:=za0 hz.out 5 _ rfl;have z6:=za0 hz.out 6 _ rfl;simp[results,Tryz.results97,go_sem,z0,z1,z2,z3,z4,z5,z6]) rfl ?_
    exact ⟨.slice ka kn kc,ns,by rw[hlenQ.out];rfl,hrz.out.move (fun x hx=>⟨by have:=hx.1;omega,by rw[zhb];exact hx.2⟩) (fun _ _=>rfl),hid (by rw[hspec.out];exact hM.out),hbz.out⟩
theorem S.zte (l:List UInt8) (n:Nat) (h:S.blank l=true):S.blank (l.drop n)=true:=by
 induction l generalizing n with
 | nil=>simpa using h
 | cons x r ih=>
  cases n with
  | zero=>exact h
  | succ n=>
   rw[List.drop_succ_cons]
   apply ih
   unfold S.blank S.indent at h ⊢
   rw[decide_eq_true_iff] at h ⊢
   simp only[S.cnt,List.length_cons] at h
   split at h <;> omega
theorem S.zup (l:List UInt8) (h:(S.item l).ok=true) (he:(S.item l).empty=true):S.blank (l.drop (S.item l).zaa)=true:=by
 by_cases hn:S.za6 (S.shallow l)=0∨S.zb3 (S.shallow l) (S.za6 (S.shallow l))=false
 ·rw[S.zlj _ hn] at h;simp at h
 ·rw[S.zim _ hn] at he ⊢
  simp only at he ⊢
  have hne:S.shallow l≠[]:=by intro e;apply hn;left;rw[e];rfl
  have h4:¬ 4≤S.indent l:=fun h4=>hne (S.zgg l h4)
  rw[S.zgy l h4] at he ⊢
  rw[List.drop_drop] at he
  rw[← List.drop_drop]
  exact S.zte _ _ he
theorem S.zq8 (d:Nat) (x:List UInt8) (h:S.blank x=true):S.za2 d [x]=S.za2 d [[]]:=by
 cases d with
 | zero=>rfl
 | succ d=>
  have h1:S.za5 [x]=1:=by simp[S.za5,h]
  have h2:S.za5 [([]:List UInt8)]=1:=by rfl
  simp only[S.za2,h1,h2]
  rfl
theorem S.zuy (m:Nat) (x:List UInt8) (r:List (List UInt8)):max 1 (lastOf (x::r.takeWhile (zbk m)))=S.zay m (x::r):=by
 unfold S.zay
 rw[List.tail_cons,zic,zf3]
 by_cases h0:lastOf (r.takeWhile (zbk m))=0
 ·rw[if_pos h0,if_pos h0];split <;> omega
 ·rw[if_neg h0,if_neg h0];omega
def oneN (m:S.Mark) (row:List (List UInt8)):Nat:=if m.empty=true∧(row[1]?.map S.blank)=some true then 1 else S.zay m.zaa row
theorem zke (m:S.Mark) (x:List UInt8) (r:List (List UInt8)):(S.zae m (x::r)).length=oneN m (x::r)∧1≤oneN m (x::r)∧oneN m (x::r)≤r.length+1:=by
 have h:=S.zmr m (x::r) (by simp)
 have h1:(S.zae m (x::r)).length=oneN m (x::r):=by
  unfold S.zae oneN
  split
  ·rfl
  ·have:=S.zdq m.zaa (x::r) (by simp)
   rw[List.length_map,List.length_take];omega
 rw[h1] at h
 exact ⟨h1,h.1,by simpa using h.2⟩
theorem zxk (d:Nat) (x:List UInt8) (r:List (List UInt8)) (h:(S.item x).ok=true):S.za2 d (((x::r).take (oneN (S.item x) (x::r))).map (fun l=>l.drop (S.item x).zaa))=S.za2 d (S.zae (S.item x) (x::r)):=by
 unfold S.zae oneN
 split
 ·rename_i hc
  rw[List.take_succ_cons,List.take_zero,List.map_cons,List.map_nil]
  exact S.zq8 d _ (S.zup x h hc.1)
 ·rfl
theorem zw6 (x:List UInt8) (r:List (List UInt8)) (n:Nat) (hn:1≤n) (h:(S.item x).ok=true):bytes (((x::r).take n).map (fun l=>l.drop (S.item x).zaa))<bytes (x::r):=by
 obtain ⟨h1,h2⟩:=S.zru x h
 obtain ⟨n,rfl⟩:∃ k,n=k+1:=⟨n-1,by omega⟩
 have h3:=S.zhk (S.item x).zaa r n
 rw[List.take_succ_cons,List.map_cons]
 simp only[bytes,List.map_cons,List.sum_cons,List.length_drop] at *;omega
structure ORel (w W0:World) (mg:Nat) (ls:List Ln) (z:Int) (k:Nat) (os:List Ln) (a:Option Addr) (cp:Nat) (wr:World):Prop where
 len:os.length=k
 spec:datL os=((datL ls).take k).map (fun l=>l.drop mg)
 small:tot (zce os)≤tot (zce (ls.take k))
 num:Num z os
 own:wr.ownsRow W0.heap.size 116 2 (.slice a os.length cp) os.length (zbx os)
 below:Below W0.heap.size W0 wr
set_option maxRecDepth 100000 in
set_option maxHeartbeats 4000000 in
theorem zy0 (C:List UInt8→List Rn→Prop) (d:Nat) (hR:ROK C d) (b o cap:Nat) (p0:Ln) (ts:List Ln) (z:Int) (w:World) (kk nn:Int) (hrow:RowL w b o (p0::ts)) (hnum:Num z (p0::ts)) (hbw:b<w.heap.size) (hcap:ts.length+1≤cap) (m:S.Mark) (hm:S.item p0.1.data.toList=m) (hok:m.ok=true) (hd:bytes (datL (p0::ts))≤d) :
  Calls Tryz.prog 142 #[.slice (some ⟨b,o,none⟩) (ts.length+1) cap,.agg #[.int .u8 kk,.int .i64 nn,.bool m.empty,.int .i64 (m.zaa:Nat)]] w fun e w'=>∃ kv ns,e = .returned (.tuple #[zpi (.nd 7 0 [] [] z ns) kv,.int .i64 ((S.zae m (datL (p0::ts))).length:Nat),.bool (S.za2 d (S.zae m (datL (p0::ts)))).2])∧RepN w' (fun x=>w.heap.size≤x∧x<w'.heap.size) kv ns∧Hid (MatL C z (S.za2 d (S.zae m (datL (p0::ts)))).1 ns)∧Below w.heap.size w w':=by
 obtain ⟨i0,hi,hi0,hi1,hi2⟩:=info_parts Tryz.zo2
 obtain ⟨W1,hW1⟩:∃ W1,W1=w.alloc (.cells #[.int .u8 kk,.int .i64 nn,.bool m.empty,.int .i64 (m.zaa:Nat)] 150):=⟨_,rfl⟩
 have hb1:Below w.heap.size w W1:=by rw[hW1];exact (Below.refl _ _).alloc (Nat.le_refl _) _
 have hs1:W1.heap.size=w.heap.size+1:=by rw[hW1];simp
 have hx1:W1.heap[w.heap.size]?=some (.cells #[.int .u8 kk,.int .i64 nn,.bool m.empty,.int .i64 (m.zaa:Nat)] 150 (0,0)):=by rw[hW1];exact za1 _ _
 obtain ⟨W0,hW0,hb0,hz0,hx0⟩:=zma W1
 have hxm:W0.heap[w.heap.size]?=_:=(hb0.block w.heap.size (by omega)).trans hx1
 have hbA:Below w.heap.size w W0:=hb1.trans (hb0.mono (by omega))
 have hlen:=hrow.len
 simp only[List.length_cons] at hlen
 have htot:=hrow.2
 have hrow0:=hrow.below hbA hbw
 have hmar:=S.zl2 p0.1.data.toList
 have hsz0:=hrow.size 0 p0 rfl
 rw[hm,S.length_data] at hmar
 have hmar1:m.zaa≤1000000:=by simp[tot,zce] at htot;omega
 obtain ⟨N,hN⟩:∃ N,oneN m (datL (p0::ts))=N:=⟨_,rfl⟩
 have hdc:datL (p0::ts)=p0.1.data.toList::datL ts:=rfl
 have hNl:Hid ((S.zae m (datL (p0::ts))).length=N):=hid (by rw[← hN,hdc];exact (zke m _ _).1)
 have hN1:1≤N:=by rw[← hN,hdc];exact (zke m _ _).2.1
 have hN2:N≤ts.length+1:=by rw[← hN,hdc];have:=(zke m p0.1.data.toList (datL ts)).2.2;rw[zaq] at this;exact this
 have hNr:Hid (S.za2 d (((datL (p0::ts)).take N).map (fun l=>l.drop m.zaa))=S.za2 d (S.zae m (datL (p0::ts)))):=hid (by
  rw[← hN,hdc,← hm];exact zxk d _ _ (by rw[hm];exact hok))
 have hNb:Hid (bytes (((datL (p0::ts)).take N).map (fun l=>l.drop m.zaa))<d):=hid (Nat.lt_of_lt_of_le (by
  rw[hdc,← hm];exact zw6 _ _ N hN1 (by rw[hm];exact hok)) hd)
 obtain ⟨go,hgo⟩:∃ go:Bool,(!m.empty || (decide (0<ts.length) && !((datL ts)[0]?.map S.blank == some true)))=go:=⟨_,rfl⟩
 have hNk:Hid (∀ k,k≤ts.length→(go=true→(datL ts).takeWhile (zbk m.zaa)=(datL ts).take k)→(go=false→k=0)→max 1 (lastOf ((datL (p0::ts)).take (k+1)))=N):=hid (fun k hk h1 h2=>by
  rw[← hN,hdc,List.take_succ_cons]
  unfold oneN
  cases hg:go with
  | true=>
   rw[← h1 hg,S.zuy,if_neg]
   rintro ⟨he,hb⟩
   rw[List.getElem?_cons_succ] at hb
   rw[hg,he,hb] at hgo
   simp at hgo
  | false=>
   rw[h2 hg,List.take_zero]
   have h3:max 1 (lastOf [p0.1.data.toList])=1:=by
    rw[zf3];simp only[lastOf,List.reverse_nil,List.dropWhile_nil,List.length_nil,if_true];split <;> rfl
   rw[h3]
   rw[hg] at hgo
   split
   ·rfl
   ·rename_i hc
    cases hts:datL ts with
    | nil=>rfl
    | cons y r=>
     exfalso
     have hl:0<ts.length:=by have:=congrArg List.length hts;rw[zaq] at this;simp at this;omega
     rw[decide_eq_true hl,hts] at hgo
     rw[hts] at hc
     simp at hgo hc
     exact absurd hgo.2 (by simpa using hc hgo.1))
 rw[hs1] at hx0
 have hrowH:=hid hrow0
 have hnumH:=hid hnum
 have hRH:=hid hR
 have hx0H:=hid hx0
 have hxmH:=hid hxm
 have hbAH:=hid hbA
 have hW0H:=hid hW0
 have hW1H:=hid hW1
 have hbW0:b<W0.heap.size:=by omega
 have hwW0:w.heap.size<W0.heap.size:=by omega
 have hw1W0:w.heap.size+1<W0.heap.size:=by omega
 have hs1H:=hid hs1
 have hgoH:=hid hgo
 have c2:W0.cell? ⟨w.heap.size,2,none⟩=some (.bool m.empty):=za0 hxm 2 _ rfl
 have c3:W0.cell? ⟨w.heap.size,3,none⟩=some (.int .i64 (m.zaa:Nat)):=za0 hxm 3 _ rfl
 have hz:p0.2=z:=by have:=hnum 0 p0 rfl;simpa using this
 clear hrow hnum hm hd hR hW1 hb1 hs1 hx1 hW0 hb0 hz0 hx0 hxm hbA hrow0 hmar hN hgo
 obtain ⟨s0,z0⟩:=p0
 dsimp only at hz hsz0
 go_enter Tryz.func142,Tryz.ntmps142
 go_upto_region 1 with fail
 rw[← hW1H.out,← hW0H.out]
 go_upto_region 2 with fail
 go_cut [27] (fun s27 wx=>s27 = .bool go∧W0=wx)
 case first=>
  rcases Bool.eq_false_or_eq_true m.empty with hme0|hme0
  ·have hme:=hid hme0
   rw[hme0] at c2
   clear hme0
   by_cases hl:0<ts.length
   ·obtain ⟨p,hp⟩:∃ p,ts[0]?=some p:=⟨ts[0],List.getElem?_eq_getElem hl⟩
    have hp1:(((s0,z0):Ln)::ts)[1]?=some p:=by simpa using hp
    have hc:=(hrowH.out.1 1 p hp1).1
    have hsz:=hrowH.out.size 1 p hp1
    obtain ⟨bl,hbl⟩:∃ bl,S.blank p.1.data.toList=bl:=⟨_,rfl⟩
    have hBl:=zc1 p.1 W0 hsz
    rw[hbl] at hBl
    have hBH:Hid (Calls Tryz.prog 67 #[.string p.1] W0 fun e w'=>e = .returned (.bool bl)∧W0=w'):=hid (hBl.mono (fun e w' ⟨h1,h2⟩=>⟨h1,h2.symm⟩))
    have he:Hid (go = !bl):=hid (by
     rw[← hgoH.out,hme.out,zca ts 0 p hp,Option.map_some,hbl,decide_eq_true hl]
     cases bl <;> rfl)
    obtain ⟨s,y⟩:=p
    dsimp only at hc hsz hBH
    have hc':W0.cell? ⟨b,o+2,none⟩=some (.string s):=by simpa using hc
    have hJ:(1:Int)<(ts.length:Int)+1:=by omega
    clear hBl hbl hp1 hp hc hl
    go_wp2_with fail
    refine hBH.out.mono ?_
    rintro e w' ⟨rfl,rfl⟩
    go_wp2
    go_meet
    exact ⟨by rw[he.out],rfl⟩
   ·have he:Hid (go=false):=hid (by rw[← hgoH.out,hme.out,decide_eq_false hl];rfl)
    have hJ:¬ (1:Int)<(ts.length:Int)+1:=by omega
    clear hl
    go_wp2
    go_meet
    exact ⟨by rw[he.out],rfl⟩
  ·have he:Hid (go=true):=hid (by rw[← hgoH.out,hme0];rfl)
   rw[hme0] at c2
   clear hme0
   go_wp2
   go_meet
   exact ⟨by rw[he.out],rfl⟩
 case rest=>
 obtain ⟨rfl,rfl⟩:=hcut
 go_upto_if 27 with fail
 go_cut [7] (fun s7 wx=>∃ k:Nat,k≤ts.length∧s7 = .int .i64 ((k:Int)+1)∧Hid (max 1 (lastOf ((datL (((s0,z0):Ln)::ts)).take (k+1)))=N∧Below W0.heap.size W0 wx))
 case first=>
  cases go with
  | false=>
   go_wp2
   go_meet
   exact ⟨0,Nat.zero_le _,rfl,hid ⟨hNk.out 0 (Nat.zero_le _) (fun h=>by cases h) (fun _=>rfl),Below.refl _ _⟩⟩
  | true=>
  have c3H:=hid c3
  clear c2 c3
  go_wp2
  go_loopw [7] (fun nv wr=>∃ k:Nat,k≤ts.length∧nv = .int .i64 ((k:Int)+1)∧Hid ((∀ j x,j<k→(datL ts)[j]?=some x→zbk m.zaa x=true)∧Below W0.heap.size W0 wr)) (fun nv _=>ts.length+1-(intOf nv).toNat)
  case atStart=>exact ⟨0,Nat.zero_le _,rfl,hid ⟨by intro j x hj;omega,Below.refl _ _⟩⟩
  case round=>
   obtain ⟨k,hk,rfl,hrel'⟩:=hrel
   obtain ⟨hall,hbr⟩:=hrel'.out
   clear hrel'
   have hallH:=hid hall
   have hbH:=hid hbr
   haveI hNE:Nonempty (Bk wr):=⟨⟨wr,Below.refl _ _⟩⟩
   have hbr0:b<wr.heap.size:=Nat.lt_of_lt_of_le hbW0 hbr.size
   have hwr0:w.heap.size<wr.heap.size:=Nat.lt_of_lt_of_le hwW0 hbr.size
   have C3:∀ kk:Bk wr,kk.w.cell? ⟨w.heap.size,3,none⟩=some (.int .i64 (m.zaa:Nat)):=fun kk=>(kk.h.cell (p:=⟨w.heap.size,3,none⟩) hwr0).trans ((hbH.out.cell (p:=⟨w.heap.size,3,none⟩) hwW0).trans c3H.out)
   have hq:Hid (∀ kq:Bk wr,Below W0.heap.size W0 kq.w):=hid (fun kq=>hbH.out.trans (kq.h.mono hbH.out.size))
   clear hall hbr
   by_cases hlt:k<ts.length
   ·obtain ⟨p,hp⟩:∃ p,ts[k]?=some p:=⟨ts[k],List.getElem?_eq_getElem hlt⟩
    have hp1:(((s0,z0):Ln)::ts)[k+1]?=some p:=by simpa using hp
    have hc:=(hrowH.out.1 (k+1) p hp1).1
    have hsz:=hrowH.out.size (k+1) p hp1
    have hd:=hid (zca ts k p hp)
    obtain ⟨s,y⟩:=p
    dsimp only at hc hsz
    obtain ⟨bl,hbl⟩:∃ bl,S.blank s.data.toList=bl:=⟨_,rfl⟩
    obtain ⟨n,hn⟩:∃ n,S.indent s.data.toList=n:=⟨_,rfl⟩
    have C1:∀ kk:Bk wr,kk.w.cell? ⟨b,o+(k+1)*2,none⟩=some (.string s):=fun kk=>(kk.h.cell (p:=⟨b,o+(k+1)*2,none⟩) hbr0).trans ((hbH.out.cell (p:=⟨b,o+(k+1)*2,none⟩) hbW0).trans hc)
    have hB':Hid (∀ kk:Bk wr,Calls Tryz.prog 67 #[.string s] kk.w fun e w'=>e = .returned (.bool bl)∧Below wr.heap.size wr w'):=hid (fun kk=>by
     have:=zc1 s kk.w hsz
     rw[hbl] at this
     exact this.mono (fun e w' ⟨h1,h2⟩=>⟨h1,by rw[h2];exact kk.h⟩))
    have hI':Hid (∀ kk:Bk wr,Calls Tryz.prog 88 #[.string s] kk.w fun e w'=>e = .returned (.int .i64 (n:Nat))∧Below wr.heap.size wr w'):=hid (fun kk=>by
     have:=zc3 s kk.w hsz
     rw[hn] at this
     exact this.mono (fun e w' ⟨h1,h2⟩=>⟨h1,by rw[h2];exact kk.h⟩))
    have hdp:Hid (zbk m.zaa s.data.toList=(bl || decide (m.zaa≤n))):=hid (by unfold zbk;rw[hbl,hn])
    have hJ0:(0:Int)≤(k:Int)+1:=by omega
    have hJ1:(k:Int)+1<(ts.length:Int)+1:=by omega
    have hton:((k:Int)+1).toNat=k+1:=by omega
    have hon:Hid (zbk m.zaa s.data.toList=true→∀ j x,j<k+1→(datL ts)[j]?=some x→zbk m.zaa x=true):=hid (fun h j x hj hx=>by
     by_cases e:j=k
     ·subst e;rw[hd.out] at hx;rw[← Option.some.inj hx];exact h
     ·exact hallH.out j x (by omega) hx)
    have hoff:Hid (zbk m.zaa s.data.toList=false→max 1 (lastOf ((datL (((s0,z0):Ln)::ts)).take (k+1)))=N):=hid (fun h=>hNk.out k hk (fun _=>zh2 _ _ k hallH.out (by rw[zaq];exact hk) (fun x hx=>by rw[hd.out] at hx;rw[← Option.some.inj hx];exact h)) (fun h=>by cases h))
    clear hp hp1 hc hbl hn
    cases bl
    ·by_cases hmn:m.zaa≤n
     ·have hge:(m.zaa:Int)≤(n:Int):=by omega
      have hyes:Hid (zbk m.zaa s.data.toList=true):=hid (by rw[hdp.out,decide_eq_true hmn];rfl)
      clear hmn
      go_wp2_with fail
      refine zav (by kernel_rfl) (by kernel_rfl) ?_
      repeat (go_big_quiet_step ((rename_i kk;first|exact (hB'.out kk).mono (fun e w' h=>⟨h.1,⟨w',h.2⟩,rfl⟩)|exact (hI'.out kk).mono (fun e w' h=>⟨h.1,⟨w',h.2⟩,rfl⟩))))
      refine wpQuiet_nil ?_
      intro _ hw'
      obtain ⟨kq,hw''⟩:=hw'
      subst hw''
      go_wp2
      go_roundw
      case rel=>exact ⟨k+1,by omega,by go_num,hid ⟨hon.out hyes.out,hq.out kq⟩⟩
      case measure=>simp[intOf];omega
     ·have hge:¬ (m.zaa:Int)≤(n:Int):=by omega
      have hno:Hid (zbk m.zaa s.data.toList=false):=hid (by rw[hdp.out,decide_eq_false hmn];rfl)
      clear hmn
      go_wp2_with fail
      refine zav (by kernel_rfl) (by kernel_rfl) ?_
      repeat (go_big_quiet_step ((rename_i kk;first|exact (hB'.out kk).mono (fun e w' h=>⟨h.1,⟨w',h.2⟩,rfl⟩)|exact (hI'.out kk).mono (fun e w' h=>⟨h.1,⟨w',h.2⟩,rfl⟩))))
      refine wpQuiet_nil ?_
      intro _ hw'
      obtain ⟨kq,hw''⟩:=hw'
      subst hw''
      go_wp2
      go_meet
      exact ⟨k,hk,rfl,hid ⟨hoff.out hno.out,hq.out kq⟩⟩
    ·have hyes:Hid (zbk m.zaa s.data.toList=true):=hid (by rw[hdp.out];rfl)
     go_wp2_with fail
     refine zav (by kernel_rfl) (by kernel_rfl) ?_
     repeat (go_big_quiet_step ((rename_i kk;first|exact (hB'.out kk).mono (fun e w' h=>⟨h.1,⟨w',h.2⟩,rfl⟩)|exact (hI'.out kk).mono (fun e w' h=>⟨h.1,⟨w',h.2⟩,rfl⟩))))
     refine wpQuiet_nil ?_
     intro _ hw'
     obtain ⟨kq,hw''⟩:=hw'
     subst hw''
     go_wp2
     go_roundw
     case rel=>exact ⟨k+1,by omega,by go_num,hid ⟨hon.out hyes.out,hq.out kq⟩⟩
     case measure=>simp[intOf];omega
   ·have hke:k=ts.length:=by omega
    subst hke
    have hJ1:¬ (ts.length:Int)+1<(ts.length:Int)+1:=by omega
    have hoff:=hid (hNk.out ts.length hk (fun _=>zh2 _ _ _ hallH.out (by rw[zaq];exact hk) (fun x hx=>by rw[List.getElem?_eq_none (by rw[zaq];exact Nat.le_refl _)] at hx;cases hx)) (fun h=>by cases h))
    go_wp2_with fail
    refine zav (by kernel_rfl) (by kernel_rfl) ?_
    repeat (go_big_quiet_step (fail))
    refine wpQuiet_nil ?_
    intro _ hw'
    obtain ⟨kq,hw''⟩:=hw'
    subst hw''
    go_wp2
    go_meet
    exact ⟨ts.length,hk,rfl,hid ⟨hoff.out,hq.out kq⟩⟩
 case rest=>
 obtain ⟨k,hk,rfl,hkH⟩:=hcut
 obtain ⟨wc0,hwc0⟩:∃ wc0,wc0=wc:=⟨_,rfl⟩
 subst hwc0
 have hLa:=zq2 b o cap ((((s0,z0):Ln)::ts).take (k+1)) wc0 ((hrowH.out.below hkH.out.2 hbW0).take (k+1))
 rw[List.length_take,List.length_cons,Nat.min_eq_left (by omega),zkt] at hLa
 obtain ⟨L,hL⟩:∃ L,lastOf ((datL (((s0,z0):Ln)::ts)).take (k+1))=L:=⟨_,rfl⟩
 have hmx0:=hkH.out.1
 rw[hL] at hLa hmx0
 have hmx:max (1:Int) (L:Int)=(N:Int):=by omega
 have hLH:Hid (Calls Tryz.prog 131 #[.slice (some ⟨b,o,none⟩) (k+1) cap] wc0 fun e w'=>e = .returned (.int .i64 (L:Nat))∧wc0=w'):=hid (hLa.mono (fun e w' ⟨h1,h2⟩=>⟨h1,h2.symm⟩))
 have hbc:=hkH.out.2
 have hbcW:b<wc0.heap.size:=Nat.lt_of_lt_of_le hbW0 hbc.size
 have hwcW:w.heap.size<wc0.heap.size:=Nat.lt_of_lt_of_le hwW0 hbc.size
 have hw1cW:w.heap.size+1<wc0.heap.size:=Nat.lt_of_lt_of_le hw1W0 hbc.size
 have hrowC:=hid (hrowH.out.below hbc hbW0)
 have c3c:=hid ((hbc.cell (p:=⟨w.heap.size,3,none⟩) hwW0).trans c3)
 have hxc:=hid ((hbc.block (w.heap.size+1) hw1W0).trans hx0H.out)
 have hbwc:=hid (hbAH.out.trans (hbc.mono (Nat.le_of_lt hwW0)))
 have hJ0:(0:Int)≤(k:Int)+1:=by omega
 have hJ1:(k:Int)+1≤(cap:Int):=by omega
 have hton:((k:Int)+1).toNat=k+1:=by omega
 clear hkH hL hmx0 hLa hbc c2 c3 hrowH hx0H hxmH hbAH hW0H hW1H hwW0 hw1W0 hbW0 hNk
 go_wp2_with fail
 refine hLH.out.mono ?_
 rintro e w' ⟨rfl,rfl⟩
 go_wp2
 go_loopw [8,9] (fun rv iv wr=>∃ (j n':Nat) (a:Option Addr) (cp:Nat),j≤N∧iv = .int .i64 j∧rv = .slice a n' cp∧Hid (∃ os,n'=os.length∧ORel w wc0 m.zaa (((s0,z0):Ln)::ts) z j os a cp wr)) (fun _ iv _=>N-(intOf iv).toNat)
 case atStart=>exact ⟨0,0,none,0,Nat.zero_le _,rfl,rfl,hid ⟨[],rfl,rfl,by simp[datL,dat,zce],by simp[tot,zce],fun i p h=>by simp at h,World.ownsRow_nil _ _ _ _,Below.refl _ _⟩⟩
 case round=>
  obtain ⟨j,n',a,cp,hj,rfl,rfl,hrel'⟩:=hrel
  obtain ⟨os,hn',hr0⟩:=hrel'.out
  subst hn'
  have hr:=hid hr0
  have hzr:wc0.heap.size≤wr.heap.size:=hr0.below.size
  have hosl:os.length≤1000000:=by have:=hr0.len;omega
  have hbr0:b<wr.heap.size:=Nat.lt_of_lt_of_le hbcW hzr
  have hwr0:w.heap.size<wr.heap.size:=Nat.lt_of_lt_of_le hwcW hzr
  clear hrel' hr0
  by_cases hlt:j<N
  ·obtain ⟨p,hp⟩:∃ p,(((s0,z0):Ln)::ts)[j]?=some p:=⟨(((s0,z0):Ln)::ts)[j]'(by simp;omega),List.getElem?_eq_getElem (by simp;omega)⟩
   have hcA:=(hrowC.out.1 j p hp).1
   have hcB:=(hrowC.out.1 j p hp).2
   have hsz:=hrowC.out.size j p hp
   have hny:=hnumH.out j p hp
   have hd:=zca _ j p hp
   obtain ⟨s,y⟩:=p
   dsimp only at hcA hcB hsz hny hd
   obtain ⟨u,hu⟩:∃ u,S.B (s.data.toList.drop m.zaa)=u:=⟨_,rfl⟩
   have hus:u.size≤s.size:=by rw[← hu,S.zbc,List.length_drop,S.length_data];omega
   have hBe:Hid (∀ wx,Calls Tryz.prog 132 #[.string s,.int .i64 (m.zaa:Nat)] wx fun e w'=>e = .returned (.string u)∧wx=w'):=hid (fun wx=>by
    have:=zhz s m.zaa wx hmar1
    rw[hu] at this
    exact this.mono (fun e w' ⟨h1,h2⟩=>⟨h1,h2.symm⟩))
   have hcr:wr.cell? ⟨b,o+j*2,none⟩=some (.string s):=(hr.out.below.cell (p:=⟨b,o+j*2,none⟩) hbcW).trans hcA
   have hcy:wr.cell? ⟨b,o+j*2+1,none⟩=some (.int .i64 y):=(hr.out.below.cell (p:=⟨b,o+j*2+1,none⟩) hbcW).trans hcB
   have hcm:wr.cell? ⟨w.heap.size,3,none⟩=some (.int .i64 (m.zaa:Nat)):=(hr.out.below.cell (p:=⟨w.heap.size,3,none⟩) hwcW).trans c3c.out
   have hJ2:(0:Int)≤(j:Int):=by omega
   have hJ3:(j:Int)<(ts.length:Int)+1:=by omega
   have hJ4:(j:Int)<(N:Int):=by omega
   have hown2:Hid (∀ ob,(wr.alloc ob).drew.ownsRow wc0.heap.size 116 2 (.slice a os.length cp) os.length (zbx os)):=hid (fun ob=>hr.out.own.kept (Below.zgu ((Below.refl wr.heap.size wr).alloc (Nat.le_refl _) ob).drew) (by
    cases h:(Value.slice a os.length cp).ownBlock with
    | none=>exact .inl rfl
    | some g=>exact .inr (by simp)))
   have hnew:Hid (∀ i v,([Value.string u,.int .i64 y]:List Value)[i]?=some v→(wr.alloc (.cells #[.string u,.int .i64 y] 116)).drew.cell? ((⟨wr.heap.size,0,none⟩:Addr).add i)=some v):=hid (fun i v hi=>World.news_of_block (za1 wr _) i v (by exact hi))
   have hone:Hid (∀ v∈([Value.string u,.int .i64 y]:List Value),v.oneCell'=true):=hid (by
    intro v hv;simp at hv;rcases hv with rfl|rfl <;> rfl)
   have hkeep:Hid (∀ w1,Below wc0.heap.size wc0 w1→w1.cell? ⟨b,o+j*2,none⟩=some (.string s)∧w1.cell? ⟨b,o+j*2+1,none⟩=some (.int .i64 y)∧w1.cell? ⟨w.heap.size,3,none⟩=some (.int .i64 (m.zaa:Nat))):=hid (fun w1 h1=>⟨(h1.cell (p:=⟨b,o+j*2,none⟩) hbcW).trans hcA,(h1.cell (p:=⟨b,o+j*2+1,none⟩) hbcW).trans hcB,(h1.cell (p:=⟨w.heap.size,3,none⟩) hwcW).trans c3c.out⟩)
   have hbd:Hid (Below wc0.heap.size wc0 wr.drew):=hid hr.out.below.drew
   have hkd:=hkeep.out _ hbd.out
   have hka:Hid (∀ ob,(wr.alloc ob).drew.cell? ⟨b,o+j*2,none⟩=some (.string s)∧(wr.alloc ob).drew.cell? ⟨b,o+j*2+1,none⟩=some (.int .i64 y)∧(wr.alloc ob).drew.cell? ⟨w.heap.size,3,none⟩=some (.int .i64 (m.zaa:Nat))):=hid (fun ob=>hkeep.out _ (hr.out.below.alloc hzr ob).drew)
   have hstep:Hid (∀ ob g cap1 w1,w1.ownsRow wc0.heap.size 116 2 (.slice (some ⟨g,0,none⟩) (os.length+1) cap1) (os.length+1) (zbx os++[.string u,.int .i64 y])→(wr.alloc ob).drew.grownBy w1 (Value.slice a os.length cp).ownBlock→ORel w wc0 m.zaa (((s0,z0):Ln)::ts) z (j+1) (os++[(u,y)]) (some ⟨g,0,none⟩) cap1 w1):=hid (fun ob g cap1 w1 ho hgw=>by
    have hlt0:=hr.out.own.lt
    refine ⟨by rw[List.length_append,hr.out.len];rfl,?_,?_,hr.out.num.z1a u y (by rw[hr.out.len];exact hny),?_,?_⟩
    ·rw[List.take_add_one,hd]
     simp only[Option.toList_some,List.map_append,List.map_cons,List.map_nil,← hr.out.spec]
     rw[← hu]
     simp[datL,dat,zce,S.zcn]
    ·have e:(((s0,z0):Ln)::ts).take (j+1)=(((s0,z0):Ln)::ts).take j++[(s,y)]:=by rw[List.take_add_one,hp];rfl
     rw[e,zkg,zkg]
     have:=hr.out.small
     dsimp only
     omega
    ·rw[List.length_append,zet];exact ho
    ·exact Below.grown (hr.out.below.alloc hzr ob).drew hgw (by simp;omega) (fun q hq=>(hlt0 q hq).1))
   have hcrH:=hid hcr
   clear hp hd hny hcA hcB hu
   go_upto_region 10 with fail
   go_region_held3 (fun w'=>w'.cell? ⟨b,o+j*2,none⟩=some (.string s)∧w'.cell? ⟨b,o+j*2+1,none⟩=some (.int .i64 y)∧w'.cell? ⟨w.heap.size,3,none⟩=some (.int .i64 (m.zaa:Nat)))
    (with_reducible first|exact ⟨hcr,hcy,hcm⟩|exact hkd|exact hka.out _|exact hk1)
    ((first|(go_at_call 132;refine (hBe.out _).mono ?_;rintro e w' ⟨rfl,rfl⟩)|(refine step_append_lies _ (by rfl) _ _ 83 (by rfl) wc0.heap.size 116 i0 (.agg #[.string ⟨#[]⟩,.int .i64 0]) 2 24 Tryz.underlying83 hi hi0 hi1 hi2 (by rfl) (by omega) (.slice a os.length cp) os.length (zbx os) (by rfl) (hown2.out _) ⟨wr.heap.size,0,none⟩ 1 1 [.string u,.int .i64 y] (by rfl) (by rfl) hnew.out hone.out (by omega) (by unfold maxLen;omega) (by omega) (by simp;omega) (wr.heap.size+1) (by simp) ?_;intro g cap1 w1 hown1 hgrow hat hltg;have hR1:=hid (hstep.out _ g cap1 w1 hown1 hgrow);have hk1:=hkeep.out w1 hR1.out.below;clear hown1 hgrow hat hltg)))
   clear hk1
   go_wp2
   go_roundw
   case rel=>exact ⟨j+1,os.length+1,some ⟨g,0,none⟩,cap1,by omega,by go_num,rfl,hid ⟨os++[(u,y)],by simp,hR1.out⟩⟩
   case measure=>simp[intOf];omega
  ·have hje:j=N:=by omega
   subst hje
   have hspec:Hid (datL os=((datL (((s0,z0):Ln)::ts)).take j).map (fun l=>l.drop m.zaa)):=hid hr.out.spec
   have hpos:0<os.length:=by rw[hr.out.len];exact hN1
   obtain ⟨g,rfl,hg0,hg1,hcp,hRow⟩:=zrs hr.out.own (by have:=hr.out.small;have:=(hrowC.out.take j).2;omega) hpos
   have hB0:=hRH.out g 0 cp os z wr hcp hg1 hRow hr.out.num (by rw[hspec.out];exact hNb.out)
   rw[hspec.out,hNr.out] at hB0
   obtain ⟨RR,hRR⟩:∃ RR,S.za2 d (S.zae m (datL (((s0,z0):Ln)::ts)))=RR:=⟨_,rfl⟩
   rw[hRR] at hB0
   obtain ⟨bs,gp⟩:=RR
   dsimp only at hB0
   have hB:=hid hB0
   have hRRH:=hid hRR
   have hwQ:w.heap.size+1<wr.heap.size:=Nat.lt_of_lt_of_le hw1cW hzr
   have hxQ:=hid ((hr.out.below.block (w.heap.size+1) hw1cW).trans hxc.out)
   have hbQ:=hid (hbwc.out.trans (hr.out.below.mono (Nat.le_of_lt hwcW)))
   have hcy:wr.cell? ⟨b,o+1,none⟩=some (.int .i64 z0):=(hr.out.below.cell (p:=⟨b,o+1,none⟩) hbcW).trans (by simpa using (hrowC.out.1 0 (s0,z0) rfl).2)
   have hcyH:=hid hcy
   have hJ4:¬ (j:Int)<(j:Int):=by omega
   have hnb:b≠w.heap.size+1:=by omega
   clear hRow hg0 hg1 hcp hRR hB0 hcy
   go_wp2_with fail
   refine hB.out.mono ?_
   rintro e w2 ⟨kv,ns,rfl,hrep,hM,hb2⟩
   obtain ⟨ka,kn,kc,rfl⟩:=hrep.form
   have hx2:=(hb2.block (w.heap.size+1) hwQ).trans hxQ.out
   have hw2:w.heap.size+1<w2.heap.size:=Nat.lt_of_lt_of_le hwQ hb2.size
   have hcy:w2.cell? ⟨b,o+1,none⟩=some (.int .i64 z0):=(hb2.cell (p:=⟨b,o+1,none⟩) hbr0).trans hcyH.out
   have d0:w2.cell? ⟨w.heap.size+1,0,none⟩=some (.int .i64 0):=za0 hx2 0 _ rfl
   have d1:w2.cell? ⟨w.heap.size+1,1,none⟩=some (.int .i64 0):=za0 hx2 1 _ rfl
   have d2:w2.cell? ⟨w.heap.size+1,2,none⟩=some (.int .i64 0):=za0 hx2 2 _ rfl
   have d3:w2.cell? ⟨w.heap.size+1,3,none⟩=some (.string ⟨#[]⟩):=za0 hx2 3 _ rfl
   have d4:w2.cell? ⟨w.heap.size+1,4,none⟩=some (.string ⟨#[]⟩):=za0 hx2 4 _ rfl
   have d5:w2.cell? ⟨w.heap.size+1,5,none⟩=some (.int .i64 0):=za0 hx2 5 _ rfl
   have d6:w2.cell? ⟨w.heap.size+1,6,none⟩=some (.slice none 0 0):=za0 hx2 6 _ rfl
   have g0:=za7 hx2
   have hzz:=hid (set7 hx2 (.int .i64 0) (.int .i64 7) (.int .i64 0) (.string ⟨#[]⟩) (.string ⟨#[]⟩) (.int .i64 z0) (.slice ka kn kc))
   have hbw2:Below w.heap.size w w2:=hbQ.out.trans (hb2.mono (by omega))
   have hbz:=hid (zb7 (N:=w.heap.size+1) hbw2 (Nat.le_succ _) (.int .i64 0) (.int .i64 7) (.int .i64 0) (.string ⟨#[]⟩) (.string ⟨#[]⟩) (.int .i64 z0) (.slice ka kn kc))
   have hrz:=hid (zcs hrep (N:=w.heap.size+1) (fun x hx e=>by have:=hx.1;omega) (.int .i64 0) (.int .i64 7) (.int .i64 0) (.string ⟨#[]⟩) (.string ⟨#[]⟩) (.int .i64 z0) (.slice ka kn kc))
   have hbQs:w.heap.size≤wr.heap.size:=by omega
   have hzH:=hid hz
   clear hx2 hb2 hrep hbw2 hz
   go_wp2
   refine bodyPost_ret (v:=.tuple #[.agg #[.int .i64 0,.int .i64 7,.int .i64 0,.string ⟨#[]⟩,.string ⟨#[]⟩,.int .i64 z0,.slice ka kn kc],.int .i64 (j:Int),.bool gp]) (by have z0:=za0 hzz.out 0 _ rfl;have z1:=za0 hzz.out 1 _ rfl;have z2:=za0 hzz.out 2 _ rfl;have z3:=za0 hzz.out 3 _ rfl;have z4:=za0 hzz.out 4 _ rfl;have z5:=za0 hzz.out 5 _ rfl;have z6:=za0 hzz.out 6 _ rfl;simp[results,Tryz.results142,go_sem,z0,z1,z2,z3,z4,z5,z6]) rfl ?_
   exact ⟨.slice ka kn kc,ns,by rw[hNl.out,hRRH.out,← hzH.out];rfl,hrz.out.move (fun x hx=>⟨by have:=hx.1;omega,by rw[zhb];exact hx.2⟩) (fun _ _=>rfl),hid (by rw[hRRH.out];exact hM.out),hbz.out⟩
end Go.Proofs.YtlojgpkajkedeaaGreatDoor
