import Derived.Test.YtlojgpkajkedeaaGreatDoorMW17
import Derived.Test.YtlojgpkajkedeaaGreatDoorME8
import Derived.Test.YtlojgpkajkedeaaGreatDoorME11
import Derived.ScopeJumps
namespace Go.Proofs.YtlojgpkajkedeaaGreatDoor
open Go.RowKit
theorem Tryz.z0i:(Tryz.prog.info? 253).map (fun i=>(i.zero,i.size,i.bytes))=some (some (.agg #[.pointer none,.bool false,.bool false]),3,16):=by kernel_rfl
theorem Ch.set5 {w:World} {C f k:Nat} {ct:ByteArray} {sl sl':Value} {ms:List Mem} (h:Ch w C 3 168 (zbo ct f k sl) ms):Ch (w.setCell ⟨C,5,none⟩ sl') C 3 168 (zbo ct f k sl') ms:=
 ⟨h.seg.zan _ h.out _,⟨za3 h.hdr.1 5 sl',by show 3+1<6;omega⟩,h.nodup,h.out⟩
def opn3 (ad:Addr) (im dd:Bool):List Value:=[.pointer (some ad),.bool im,.bool dd]
theorem zo9 (ms:List Mem) (m:Mem) (os:List Opn) (im:Bool):zb4 (ms++[m]) (os++[⟨ms.length,im,false⟩])=zb4 (ms++[m]) os++opn3 m.ad im false:=by
 unfold zb4 opn3
 rw[List.map_append,List.flatten_append]
 simp
theorem zbd (ms:List Mem) (os:List Opn):(zb4 ms os).length=os.length*3:=by
 unfold zb4
 induction os with
 | nil=>rfl
 | cons x r ih=>simp only[List.map_cons,List.flatten_cons,List.length_append,ih,List.length_cons,List.length_nil];omega
theorem Cut.pushed {C:Nat} {ct:ByteArray} {f k:Nat} {ms:List Mem} {m:Mem} {os:List Opn} {sa:Option Addr} {sc g cap1:Nat} {A:Nat→Prop} {im:Bool} {w W w3:World} (h:Cut C ct f k (ms++[m]) os sa sc A w) (hj:∀ x∈os,x.j<ms.length) (hW:Below w.heap.size w W)
  (hown3:w3.ownsRow (C+1) 253 3 (.slice (some ⟨g,0,none⟩) (os.length+1) cap1) (os.length+1) (zb4 (ms++[m]) os++opn3 m.ad im false)) (hgrow:W.grownBy w3 (Value.slice sa os.length sc).ownBlock) (hat:(Value.slice sa os.length sc).ownBlock=some g∨g=W.heap.size) :
  Cut C ct f k (ms++[m]) (os++[⟨ms.length,im,false⟩]) (some ⟨g,0,none⟩) cap1 A (w3.setCell ⟨C,5,none⟩ (.slice (some ⟨g,0,none⟩) (os.length+1) cap1))∧Below C w (w3.setCell ⟨C,5,none⟩ (.slice (some ⟨g,0,none⟩) (os.length+1) cap1)):=by
 have hlt:=h.own.lt
 have hcl:=h.lt
 have hsW:=hW.size
 have hs3:=hgrow.size
 have hblk:∀ x,x<w.heap.size→some x≠(Value.slice sa os.length sc).ownBlock→w3.heap[x]?=w.heap[x]?:=fun x hx hne=>by
  rw[hgrow.block x (by omega) hne,hW.block x hx]
 have hC0:some C≠(Value.slice sa os.length sc).ownBlock:=fun e=>by have:=(hlt C e.symm).1;omega
 have hmb:∀ x∈C::blks (ms++[m]),w3.heap[x]?=w.heap[x]?:=fun x hx=>by
  rcases List.mem_cons.1 hx with rfl|hx
  ·exact hblk _ hcl hC0
  ·exact hblk x (h.ch.mlt x hx) (h.sep x hx)
 have hch3:Ch w3 C 3 168 (zbo ct f k (.slice sa os.length sc)) (ms++[m]):=h.ch.move hmb
 have hfar:∀ x,x<w.heap.size→some x≠(Value.slice sa os.length sc).ownBlock→some x≠(Value.slice (some ⟨g,0,none⟩) (os.length+1) cap1).ownBlock:=fun x hx hne e=>by
  have hgo:(Value.slice (some (⟨g,0,none⟩:Addr)) (os.length+1) cap1).ownBlock=some g:=rfl
  rw[hgo] at e
  cases e
  rcases hat with hat|hat
  ·exact hne hat.symm
  ·omega
 have hln:(os++[(⟨ms.length,im,false⟩:Opn)]).length=os.length+1:=by simp
 refine ⟨⟨?_,?_,?_,?_,?_,h.above,?_,?_,h.fk,h.kl,h.small,h.bytes,h.runs⟩,?_⟩
 ·rw[hln];exact hch3.set5
 ·intro e he
  exact (h.kids e he).move (fun x hx=>hx) (fun x hx=>by
   have hd:=h.dead x hx
   rw[Below.heap_setCell _ _ _ _ (fun (e:x=C)=>hd.2.1 (by rw[e];exact List.mem_cons_self))]
   exact hblk x hd.1 hd.2.2)
 ·intro x hx
  have hd:=h.dead x hx
  refine ⟨?_,hd.2.1,?_⟩
  ·have:(w3.setCell ⟨C,5,none⟩ (.slice (some ⟨g,0,none⟩) (os.length+1) cap1)).heap.size=w3.heap.size:=by simp[World.setCell]
   omega
  ·rw[hln];exact hfar x hd.1 hd.2.2
 ·rw[hln,zo9];exact ownsRow_setCell_below hown3 (by simp) _
 ·intro x hx;rw[hln];exact hfar x (h.ch.mlt x hx) (h.sep x hx)
 ·intro x hx
  rcases List.mem_append.1 hx with hx|hx
  ·exact h.inl x hx
  ·simp at hx;subst hx;simp
 ·rw[List.pairwise_append]
  exact ⟨h.up,by simp,fun x hx y hy=>by simp at hy;subst hy;exact hj x hx⟩
 ·exact Below.setCell (Below.grown (hW.mono (Nat.le_of_lt hcl)) hgrow (by omega) (fun q hq=>by have:=(hlt q hq).1;omega)) (by simp) _
set_option maxRecDepth 100000 in
set_option maxHeartbeats 4000000 in
theorem zyx (C:Nat) (ct:ByteArray) (f k:Nat) (ms:List Mem) (os:List Opn) (sa:Option Addr) (sc:Nat) (A:Nat→Prop) (m:Mem) (im:Bool) (w:World) (h:Cut C ct f k (ms++[m]) os sa sc A w) (hj:∀ x∈os,x.j<ms.length) (hol:os.length≤1000000) :
  Calls Tryz.prog 241 #[.pointer (some ⟨C,5,none⟩),.agg #[.pointer (some ⟨m.m,0,none⟩),.bool im,.bool false]] w fun e w'=>∃ sa' sc',e = .returned (.tuple #[])∧Cut C ct f k (ms++[m]) (os++[⟨ms.length,im,false⟩]) sa' sc' A w'∧Below C w w':=by
 obtain ⟨i0,hi,hz0,hz1,hz2⟩:=info_parts Tryz.z0i
 have hcc:=h.cells
 have hcl:=h.lt
 have hlt:=h.own.lt
 obtain ⟨wb,hwb⟩:∃ wb,wb=w.alloc (.cells #[.pointer (some ⟨m.m,0,none⟩),.bool im,.bool false] 253):=⟨_,rfl⟩
 have hbs:wb.heap.size=w.heap.size+1:=by rw[hwb];simp
 have hbb:Below w.heap.size w wb:=by rw[hwb];exact (Below.refl _ _).alloc (Nat.le_refl _) _
 have hbx:wb.heap[w.heap.size]?=some (.cells #[.pointer (some ⟨m.m,0,none⟩),.bool im,.bool false] 253 (0,0)):=by rw[hwb];exact za1 _ _
 have hcb:wb.heap[C]?=_:=(hbb.block C hcl).trans hcc
 have q5:wb.cell? ⟨C,5,none⟩=some (.slice sa os.length sc):=za0 hcb 5 _ rfl
 have x0:wb.cell? ⟨w.heap.size,0,none⟩=some (.pointer (some ⟨m.m,0,none⟩)):=za0 hbx 0 _ rfl
 have x1:wb.cell? ⟨w.heap.size,1,none⟩=some (.bool im):=za0 hbx 1 _ rfl
 have x2:wb.cell? ⟨w.heap.size,2,none⟩=some (.bool false):=za0 hbx 2 _ rfl
 have hown:=hid (fun o=>((h.below hbb).own.alloc o))
 have hnew:Hid (∀ (wx:World) (B:Nat),wx.heap[B]?=some (.cells #[.pointer (some ⟨m.m,0,none⟩),.bool im,.bool false] 253 (0,0))→∀ j u,(opn3 m.ad im false)[j]?=some u→wx.cell? ((⟨B,0,none⟩:Addr).add j)=some u):=hid (fun wx B hB j u hu=>World.news_of_block hB j u hu)
 have hone:Hid (∀ u∈opn3 m.ad im false,u.oneCell'=true):=hid (by
  intro u hu;simp[opn3] at hu;rcases hu with rfl|rfl|rfl <;> rfl)
 have hH:=hid h
 have hWb:Hid (∀ o,Below w.heap.size w (wb.drew.alloc o)):=hid (fun o=>hbb.drew.alloc (by show w.heap.size≤wb.heap.size;omega) _)
 have hCg:Hid (∀ o w3,(wb.drew.alloc o).grownBy w3 (Value.slice sa os.length sc).ownBlock→w3.heap[C]?=some (.cells [.string ct,.int .i64 (f:Nat),.int .i64 (k:Nat),.pointer (hd (ms++[m]) none),.pointer (lst (ms++[m]) none),.slice sa os.length sc].toArray 168 (0,0))):=hid (fun o w3 hg=>by
  rw[hg.block C (by have:=(hWb.out o).size;omega) (fun e=>by have:=(hlt C e.symm).1;omega),(hWb.out o).block C hcl];exact hcc)
 have hbsH:=hid hbs
 have q5a:∀ o,(wb.alloc o).cell? ⟨C,5,none⟩=some (.slice sa os.length sc):=fun o=>za0 ((Below.heap_alloc wb o C (by omega)).trans hcb) 5 _ rfl
 have hbase:C+1≤wb.heap.size:=by omega
 clear h hcc hcb hbx hlt hbs
 go_enter Tryz.func241,Tryz.ntmps241
 go_wp2_with fail
 rw[← hwb]
 clear hwb hbb
 go_region_law ((refine step_append_lies _ (by rfl) _ _ 164 (by rfl) (C+1) 253 i0 (.agg #[.pointer none,.bool false,.bool false]) 3 16 Tryz.underlying164 hi hz0 hz1 hz2 (by rfl) (by omega) (.slice sa os.length sc) os.length (zb4 (ms++[m]) os) (by rfl) (hown.out _) ⟨wb.heap.size,0,none⟩ 1 1 (opn3 m.ad im false) (by rfl) (by rfl) (hnew.out _ _ (za1 _ _)) hone.out (by omega) (by unfold maxLen;omega) (by omega) (by simp;omega) (wb.heap.size+1) (by simp) ?_;intro g cap1 w3 hown3 hgrow hat hltg;have hc3:=hCg.out _ w3 hgrow;have k5:w3.cell? ⟨C,5,none⟩=some (.slice sa os.length sc):=za0 hc3 5 _ rfl;have f5:=za7 hc3))
 all_goals (have hp:=hid (hH.out.pushed hj (hWb.out _) hown3 hgrow (by have:=hat;simpa using this)))
 all_goals clear hown3 hgrow hat hc3
 all_goals go_end0
 all_goals exact ⟨_,_,rfl,hp.out.1,hp.out.2⟩
set_option maxRecDepth 100000 in
set_option maxHeartbeats 4000000 in
theorem zyk (C:Nat) (ct:ByteArray) (f k:Nat) (ms:List Mem) (sa:Option Addr) (sc:Nat) (A:Nat→Prop) (w:World) (h:Cut C ct f k ms [] sa sc A w) :
  Calls Tryz.prog 236 #[.pointer (some ⟨C,5,none⟩)] w fun e w'=>e = .returned (.tuple #[.agg #[.pointer none,.bool false,.bool false],.bool false])∧Below w.heap.size w w':=by
 have hcc:=h.cells
 have hcl:=h.lt
 have q5:w.cell? ⟨C,5,none⟩=some (.slice sa 0 sc):=za0 hcc 5 _ rfl
 have q5a:∀ o,(w.alloc o).cell? ⟨C,5,none⟩=some (.slice sa 0 sc):=fun o=>za0 ((Below.heap_alloc w o C hcl).trans hcc) 5 _ rfl
 clear h hcc
 go_enter Tryz.func236,Tryz.ntmps236
 go_wp2
 exact bodyPost_ret (v:=.tuple #[.agg #[.pointer none,.bool false,.bool false],.bool false]) (by simp[results,Tryz.results236,go_sem]) rfl ⟨rfl,(Below.refl _ _).alloc (Nat.le_refl _) _⟩
theorem zix (ms:List Mem) (os:List Opn) (o:Opn):zb4 ms (os++[o])=zb4 ms os++[Value.pointer ((ms[o.j]?).map Mem.ad),.bool o.image,.bool o.dead]:=by
 unfold zb4
 rw[List.map_append,List.flatten_append]
 simp
theorem Cut.popped {C:Nat} {ct:ByteArray} {f k:Nat} {ms:List Mem} {os:List Opn} {o:Opn} {sa:Option Addr} {sc:Nat} {A:Nat→Prop} {w:World} (h:Cut C ct f k ms (os++[o]) sa sc A w) :
  Cut C ct f k ms os sa sc A (w.setCell ⟨C,5,none⟩ (.slice sa os.length sc)):=by
 have hln:(os++[o]).length=os.length+1:=by simp
 have hlt:=h.own.lt
 have hown:=h.own
 have hob:(Value.slice sa (os++[o]).length sc).ownBlock=(Value.slice sa os.length sc).ownBlock:=by cases sa <;> rfl
 have hown':w.ownsRow (C+1) 253 3 (.slice sa os.length sc) os.length (zb4 ms os):=by
  rcases hown.2 with ⟨_,h0⟩|⟨g,cap,cur,hv,hg,hh,hc1,hc2,hc3,ht⟩
  ·rw[hln] at h0;omega
  ·have hsa:sa=some ⟨g,0,none⟩:=by injection hv
   have hsc:sc=cap:=by injection hv
   subst hsa hsc
   refine ⟨by rw[zbd],.inr ⟨g,sc,cur,rfl,hg,hh,by rw[hln] at hc1;omega,hc2,hc3,?_⟩⟩
   have h1:=congrArg (List.take (os.length*3)) ht
   rw[zix,List.take_append_of_le_length (by rw[zbd];omega),List.take_of_length_le (l:=zb4 ms os) (by rw[zbd];omega),List.take_take] at h1
   rw[← h1,hln]
   congr 1
   omega
 refine ⟨h.ch.set5,?_,?_,ownsRow_setCell_below hown' (by simp) _,?_,h.above,?_,?_,h.fk,h.kl,h.small,h.bytes,h.runs⟩
 ·intro e he
  exact (h.kids e he).move (fun x hx=>hx) (fun x hx=>by
   have hd:=h.dead x hx
   exact Below.heap_setCell _ _ _ _ (fun (e:x=C)=>hd.2.1 (by rw[e];exact List.mem_cons_self)))
 ·intro x hx
  have hd:=h.dead x hx
  rw[hob] at hd
  exact ⟨by simp[World.setCell];exact hd.1,hd.2⟩
 ·intro x hx;rw[← hob];exact h.sep x hx
 ·intro x hx;exact h.inl x (List.mem_append_left _ hx)
 ·exact (List.pairwise_append.1 h.up).1
set_option maxRecDepth 100000 in
set_option maxHeartbeats 4000000 in
theorem znj (C:Nat) (ct:ByteArray) (f k:Nat) (ms:List Mem) (os:List Opn) (o:Opn) (sa:Option Addr) (sc:Nat) (A:Nat→Prop) (w:World) (h:Cut C ct f k ms (os++[o]) sa sc A w) (hol:os.length≤1000000) :
  Calls Tryz.prog 236 #[.pointer (some ⟨C,5,none⟩)] w fun e w'=>e = .returned (.tuple #[.agg #[.pointer ((ms[o.j]?).map Mem.ad),.bool o.image,.bool o.dead],.bool true])∧Cut C ct f k ms os sa sc A w'∧Fr [C] w w':=by
 have hcc:=h.cells
 have hcl:=h.lt
 have hln:(os++[o]).length=os.length+1:=by simp
 obtain ⟨g,cap,hv,hg,hgl⟩:=h.own.form (by omega)
 have hsa:sa=some ⟨g,0,none⟩:=by injection hv
 have hcap:os.length+1≤sc:=by
  rcases h.own.2 with ⟨h1,h0⟩|⟨g',cap',cur,hv',_,_,hc1,_⟩
  ·rw[hln] at h0;omega
  ·have:sc=cap':=by injection hv'
   rw[hln] at hc1;omega
 have hcell:=fun j u=>h.own.cells (g:=g) (by rw[hsa];rfl) j u
 subst hsa
 rw[hln] at hcc
 have hadd:∀ j,(⟨g,0,none⟩:Addr).add j=⟨g,j,none⟩:=fun j=>by unfold Addr.add;split <;> simp_all
 have hat3:∀ i u,([Value.pointer ((ms[o.j]?).map Mem.ad),.bool o.image,.bool o.dead]:List Value)[i]?=some u→∀ ob,w.cell? ⟨g,os.length*3+i,none⟩=some u∧(w.alloc ob).cell? ⟨g,os.length*3+i,none⟩=some u:=fun i u hu ob=>by
  have:=hcell (os.length*3+i) u (by rw[zix,List.getElem?_append_right (by rw[zbd];omega),zbd,show os.length*3+i-os.length*3=i by omega];exact hu)
  rw[hadd] at this
  exact ⟨this,(zff (Below.heap_alloc w ob g hgl) _).trans this⟩
 have c0:=fun ob=>(hat3 0 _ rfl ob).2
 have c1:=fun ob=>(hat3 1 _ rfl ob).2
 have c2:=fun ob=>(hat3 2 _ rfl ob).2
 rw[Nat.add_zero] at c0
 have hne:(((os.length:Nat):Int)+1 == 0)=false:=by simp;omega
 clear hat3 hadd
 clear hcell hv
 have q5:w.cell? ⟨C,5,none⟩=some (.slice (some ⟨g,0,none⟩) (os.length+1) sc):=za0 hcc 5 _ rfl
 have qf:=za7 hcc
 have q5a:∀ o,(w.alloc o).cell? ⟨C,5,none⟩=some (.slice (some ⟨g,0,none⟩) (os.length+1) sc):=fun o=>za0 ((Below.heap_alloc w o C hcl).trans hcc) 5 _ rfl
 have hH:=hid h
 clear h hcc
 go_enter Tryz.func236,Tryz.ntmps236
 go_wp2_with fail
 refine bodyPost_ret (v:=.tuple #[.agg #[.pointer ((ms[o.j]?).map Mem.ad),.bool o.image,.bool o.dead],.bool true]) (by simp[results,Tryz.results236,go_sem]) rfl ⟨rfl,?_,?_⟩
 ·exact hH.out.popped.below ((Below.refl _ _).alloc (Nat.le_refl _) _)
 ·exact ((Fr.refl _ w).setCell _ (.inl (by simp)) _).alloc _
set_option maxRecDepth 100000 in
set_option maxHeartbeats 4000000 in
theorem zyn (C:Nat) (ct t:ByteArray) (im:Bool) (f k:Nat) (ms:List Mem) (os:List Opn) (sa:Option Addr) (sc:Nat) (A:Nat→Prop) (w:World) (h:Cut C ct f k ms os sa sc A w) (hk:k+t.size≤ct.size) (him:(t.toList == [33,91])=im) (hol:os.length≤1000000) :
  Calls Tryz.prog 204 #[.pointer (some ⟨C,0,none⟩),.string t] w fun e w'=>∃ m1 m2 sa' sc',e = .returned (.tuple #[])∧w.heap.size≤m1∧w.heap.size≤m2∧Cut C ct (k+t.size) (k+t.size) ((ms++zcp ct f k m1)++[⟨m2,zbj t.data.toList,none,none⟩]) (os++[⟨(ms++zcp ct f k m1).length,im,false⟩]) sa' sc' A w'∧Below C w w':=by
 have hcl:=h.lt
 have hcc:=h.cells
 have hsm:=h.small
 have hL:=hid (zlk C ct f k t.size ms os sa sc A (zbj t.data.toList) none none w h hk (by simp[zbj,Pt.text]) (by simp[zbj,Pt.rs]) .nil)
 subst him
 rw[show zhc (zbj t.data.toList) none none = .agg #[.int .i64 8,.string ⟨#[]⟩,.string t,.pointer none,.pointer none,.int .i64 0,.bool false,.bool false] by simp only[zhc,zbj,Pt.kind,Pt.info,Pt.text,Pt.rs,Pt.ro,Pt.rc,S.zbq];rfl] at hL
 have hH:=hid h
 clear h hcc
 go_enter Tryz.func204,Tryz.ntmps204
 go_wp2_with fail
 refine hL.out.mono ?_
 rintro e w1 ⟨m1,m2,rfl,hm1,hm2,hC1,hf1⟩
 have hP:=hid (fun (wx:World) (hx:Below w1.heap.size w1 wx)=>zyx C ct (k+t.size) (k+t.size) (ms++zcp ct f k m1) os sa sc A ⟨m2,zbj t.data.toList,none,none⟩ (t.toList == [33,91]) wx (hC1.below hx) (fun x hx=>by have:=hH.out.inl x hx;simp;omega) hol)
 have hfH:=hid hf1
 clear hC1 hf1
 go_wp2_with fail
 refine (hP.out w1 (Below.refl _ _)).mono ?_
 rintro e w2 ⟨sa',sc',rfl,hC2,hb2⟩
 have hall:=hid (And.intro hC2 hb2)
 clear hC2 hb2
 go_wp2
 go_end0
 exact ⟨m1,m2,sa',sc',rfl,hm1,hm2,hall.out.1,(hH.out.zez hfH.out).trans hall.out.2⟩
def Opn.kill (o:Opn):Opn:={ o with dead:=o.dead || !o.image }
theorem zed {w:World} {base:Nat} {e:TypeId} {size n:Nat} {v:Value} {xs:List Value} (h:w.ownsRow base e size v n xs) {g:Nat} (hg:v.ownBlock=some g) (i:Nat) (u:Value):(w.setCell ⟨g,i,none⟩ u).ownsRow base e size v n (xs.set i u):=by
 rcases h.2 with ⟨rfl,_⟩|⟨g',cap,cur,rfl,hb,hh,hc1,hc2,hc3,ht⟩
 ·simp[Value.ownBlock] at hg
 ·have hgg:g'=g:=by simpa [Value.ownBlock] using hg
  subst hgg
  refine ⟨by rw[List.length_set];exact h.1,.inr ⟨g',cap,(cur.toList.set i u).toArray,rfl,hb,?_,hc1,hc2,by simp[hc3],?_⟩⟩
  ·exact za3 (cs:=cur.toList) (by simpa using hh) i u
  ·rw[← ht]
   simp only
   rw[List.take_set]
set_option maxRecDepth 100000 in
set_option maxHeartbeats 4000000 in
theorem zy3 (g o:Nat) (im dd:Bool) (w:World) (h1:w.cell? ⟨g,o+1,none⟩=some (.bool im)) (h2:w.cell? ⟨g,o+2,none⟩=some (.bool dd)) (hf:w.frozen? ⟨g,o+2,none⟩=false) :
  Calls Tryz.prog 240 #[.pointer (some ⟨g,o,none⟩)] w fun e w'=>e = .returned (.tuple #[])∧w'=w.setCell ⟨g,o+2,none⟩ (.bool (dd || !im)):=by
 go_enter Tryz.func240,Tryz.ntmps240
 cases dd <;> cases im <;> go_wp2
 all_goals go_end0
 all_goals exact ⟨rfl,rfl⟩
theorem zgx (ms:List Mem) (X Y:List Opn) (o:Opn):zb4 ms (X++o::Y)=zb4 ms X++(Value.pointer ((ms[o.j]?).map Mem.ad) :: .bool o.image :: .bool o.dead::zb4 ms Y):=by
 unfold zb4
 rw[List.map_append,List.flatten_append]
 simp
def ownL (sa:Option Addr):List Nat:=match sa with
 | some a=>[a.block]
 | none=>[]
theorem Cut.killed {C:Nat} {ct:ByteArray} {f k g:Nat} {ms:List Mem} {X Y:List Opn} {o:Opn} {sc:Nat} {A:Nat→Prop} {w:World} (h:Cut C ct f k ms (X++o::Y) (some ⟨g,0,none⟩) sc A w) :
  Cut C ct f k ms (X++o.kill::Y) (some ⟨g,0,none⟩) sc A (w.setCell ⟨g,X.length*3+2,none⟩ (.bool (o.dead || !o.image))):=by
 have hln:(X++o.kill::Y).length=(X++o::Y).length:=by simp
 have hob:∀ n,(Value.slice (some (⟨g,0,none⟩:Addr)) n sc).ownBlock=some g:=fun _=>rfl
 have hlt:=h.own.lt g (hob _)
 have hset:zb4 ms (X++o.kill::Y)=(zb4 ms (X++o::Y)).set (X.length*3+2) (.bool (o.dead || !o.image)):=by
  rw[zgx,zgx,List.set_append_right _ _ (by rw[zbd];omega),zbd,show X.length*3+2-X.length*3=2 by omega]
  rfl
 have hne:∀ x,some x≠some g→x≠g:=fun x hx e=>hx (by rw[e])
 refine ⟨?_,?_,?_,?_,?_,h.above,?_,?_,h.fk,h.kl,h.small,h.bytes,h.runs⟩
 ·rw[hln]
  exact h.ch.move (fun x hx=>Below.heap_setCell _ _ _ _ (by
   rcases List.mem_cons.1 hx with rfl|hx
   ·show x≠g;omega
   ·exact hne x (h.sep x hx)))
 ·intro e he
  exact (h.kids e he).move (fun x hx=>hx) (fun x hx=>Below.heap_setCell _ _ _ _ (hne x (h.dead x hx).2.2))
 ·intro x hx
  have hd:=h.dead x hx
  exact ⟨by simp[World.setCell];exact hd.1,hd.2⟩
 ·rw[hln,hset];exact zed h.own (hob _) _ _
 ·intro x hx;exact h.sep x hx
 ·intro x hx
  rcases List.mem_append.1 hx with hx|hx
  ·exact h.inl x (List.mem_append_left _ hx)
  ·rcases List.mem_cons.1 hx with rfl|hx
   ·exact h.inl o (by simp)
   ·exact h.inl x (by simp[hx])
 ·have hu:=List.pairwise_append.1 h.up
  have hc:=List.pairwise_cons.1 hu.2.1
  refine List.pairwise_append.2 ⟨hu.1,List.pairwise_cons.2 ⟨hc.1,hc.2⟩,fun x hx y hy=>?_⟩
  rcases List.mem_cons.1 hy with rfl|hy
  ·exact hu.2.2 x hx o (by simp)
  ·exact hu.2.2 x hx y (by simp[hy])
set_option maxRecDepth 100000 in
set_option maxHeartbeats 4000000 in
theorem zsk (C:Nat) (ct:ByteArray) (f k:Nat) (ms:List Mem) (os:List Opn) (sa:Option Addr) (sc:Nat) (A:Nat→Prop) (w:World) (h:Cut C ct f k ms os sa sc A w) (hol:os.length≤1000000) :
  Calls Tryz.prog 239 #[.pointer (some ⟨C,5,none⟩),.func (.func 240) #[] #[]] w fun e w'=>e = .returned (.tuple #[])∧Cut C ct f k ms (os.map Opn.kill) sa sc A w'∧Fr (ownL sa) w w':=by
 have hcc:=h.cells
 have hcl:=h.lt
 have q5:w.cell? ⟨C,5,none⟩=some (.slice sa os.length sc):=za0 hcc 5 _ rfl
 have hH:=hid h
 clear h hcc
 go_enter Tryz.func239,Tryz.ntmps239
 go_wp2_with fail
 go_loopg [10] os.length (fun n i wr=>∃ X Y,os=X++Y∧n=Y.length∧i = .int .i64 (X.length:Nat)∧Cut C ct f k ms (X.map Opn.kill++Y) sa sc A wr∧Fr (ownL sa) w wr)
 case atStart=>exact ⟨[],os,rfl,rfl,rfl,hH.out,Fr.refl _ _⟩
 case round=>
  obtain ⟨X,Y,hos,rfl,rfl,hC,hfr⟩:=hrel
  have hosl:os.length=X.length+Y.length:=by rw[hos];simp
  have hCH:=hid hC
  have hfH:=hid hfr
  cases Y with
  | nil=>
   clear hC hfr
   simp only[List.length_nil,Nat.add_zero] at hosl
   have hlt:¬ ((X.length:Int)<(os.length:Int)):=by omega
   go_wp2
   go_end0
   have:=hCH.out
   rw[List.append_nil] at this
   exact ⟨rfl,this,hfH.out⟩
  | cons o Y=>
   have hlt:((X.length:Int)<(os.length:Int)):=by rw[hosl];simp;omega
   have hltn:X.length<os.length:=by rw[hosl];simp
   have hln:(X.map Opn.kill++o::Y).length=os.length:=by rw[hosl];simp
   obtain ⟨g,cap,hv,hg,hgl⟩:=hC.own.form (by omega)
   have hsa:sa=some ⟨g,0,none⟩:=by injection hv
   subst hsa
   have hcc:=hC.cells
   rw[hln] at hcc
   have q5:wr.cell? ⟨C,5,none⟩=some (.slice (some ⟨g,0,none⟩) os.length sc):=za0 hcc 5 _ rfl
   have hadd:∀ j,(⟨g,0,none⟩:Addr).add j=⟨g,j,none⟩:=fun j=>by unfold Addr.add;split <;> simp_all
   have hat3:∀ i u,([Value.pointer ((ms[o.j]?).map Mem.ad),.bool o.image,.bool o.dead]:List Value)[i]?=some u→wr.cell? ⟨g,X.length*3+i,none⟩=some u:=fun i u hu=>by
    have:=hC.own.cells (g:=g) rfl (X.length*3+i) u (by
     rw[zgx,List.getElem?_append_right (by rw[zbd,List.length_map];omega),zbd,List.length_map,show X.length*3+i-X.length*3=i by omega]
     have hi:i<3:=(List.getElem?_eq_some_iff.1 hu).1
     rw[← hu]
     rcases i with _|_|_|i <;> first|rfl|omega)
    rw[hadd] at this
    exact this
   have hfz:wr.frozen? ⟨g,X.length*3+2,none⟩=false:=by
    rcases hC.own.2 with ⟨h1,h0⟩|⟨g',cap',cur,hv',_,hh,_⟩
    ·rw[hln] at h0;omega
    ·have:g=g':=by injection hv' with h1;injection h1 with h2;injection h2
     subst this
     exact za7 hh _
   have hK:=hid (zy3 g (X.length*3) o.image o.dead wr (hat3 1 _ rfl) (hat3 2 _ rfl) hfz)
   clear hC hfr hcc hat3 hadd hv
   have hosH:=hid hos
   clear hos hosl
   go_wp2_with fail
   refine hK.out.mono ?_
   rintro e w' ⟨rfl,rfl⟩
   go_wp2
   go_roundg Y.length
   case rel=>
    refine ⟨X++[o],Y,by rw[hosH.out];simp,rfl,by simp,?_,hfH.out.setCell _ (.inl (by simp[ownL])) _⟩
    have:=hCH.out.killed
    rw[List.length_map] at this
    rw[List.map_append]
    simpa using this
   case measure=>simp
set_option maxRecDepth 100000 in
set_option maxHeartbeats 4000000 in
theorem zts (C:Nat) (ct:ByteArray) (f k:Nat) (ms:List Mem) (sa:Option Addr) (sc:Nat) (A:Nat→Prop) (w:World) (h:Cut C ct f k ms [] sa sc A w) :
  Calls Tryz.prog 203 #[.pointer (some ⟨C,0,none⟩)] w fun e w'=>e = .returned (.bool false)∧Below w.heap.size w w':=by
 have hP:=hid (fun (wx:World) (hx:Below w.heap.size w wx)=>zyk C ct f k ms sa sc A wx (h.below hx))
 clear h
 go_enter Tryz.func203,Tryz.ntmps203
 go_wp2_with fail
 refine (hP.out _ (by first|exact Below.refl _ _|exact (Below.refl _ _).drew|exact (Below.refl _ _).alloc (Nat.le_refl _) _)).mono ?_
 rintro e w1 ⟨rfl,hb1⟩
 have hbH:=hid hb1
 clear hb1
 go_wp2
 go_ret
 exact ⟨rfl,hbH.out.alloc hbH.out.size _⟩
set_option maxRecDepth 100000 in
set_option maxHeartbeats 4000000 in
theorem ztj (C:Nat) (ct:ByteArray) (f k:Nat) (ms:List Mem) (os:List Opn) (o:Opn) (sa:Option Addr) (sc:Nat) (A:Nat→Prop) (w:World) (h:Cut C ct f k ms (os++[o]) sa sc A w) (hol:os.length≤1000000) (hd:o.dead=true) :
  Calls Tryz.prog 203 #[.pointer (some ⟨C,0,none⟩)] w fun e w'=>e = .returned (.bool false)∧Cut C ct f k ms os sa sc A w'∧Below C w w':=by
 have hcl:=h.lt
 have hP:=hid (znj C ct f k ms os o sa sc A w h hol)
 rw[hd] at hP
 have hH:=hid h
 clear h
 go_enter Tryz.func203,Tryz.ntmps203
 go_wp2_with fail
 refine hP.out.mono ?_
 rintro e w1 ⟨rfl,hC1,hf1⟩
 have hall:=hid (And.intro hC1 hf1)
 clear hC1 hf1
 go_wp2
 go_ret
 have hb:Below C w w1:=hall.out.2.below (Nat.le_of_lt hcl) (by simp)
 exact ⟨rfl,hall.out.1.below ((Below.refl _ _).alloc (Nat.le_refl _) _),hb.alloc (by have:=hb.size;omega) _⟩
set_option maxRecDepth 100000 in
set_option maxHeartbeats 4000000 in
theorem ztt (C:Nat) (ct:ByteArray) (f k:Nat) (ms:List Mem) (os:List Opn) (o:Opn) (sa:Option Addr) (sc:Nat) (A:Nat→Prop) (w:World) (h:Cut C ct f k ms (os++[o]) sa sc A w) (hol:os.length≤1000000) (hd:o.dead=false) (hk:k+1≤ct.size) (hok:S.zd1 (ct.data.toList.drop (k+1))=false) :
  Calls Tryz.prog 203 #[.pointer (some ⟨C,0,none⟩)] w fun e w'=>e = .returned (.bool false)∧Cut C ct f k ms os sa sc A w'∧Below C w w':=by
 have hcl:=h.lt
 have hsm:=h.small
 have hP:=hid (znj C ct f k ms os o sa sc A w h hol)
 rw[hd] at hP
 have hz:(ct.extract (k+1) ct.size).size=ct.size-(k+1):=by simp
 have hAd:Hid (∀ wx,Calls Tryz.prog 237 #[.string (ct.extract (k+1) ct.size)] wx fun e w'=>∃ r:ByteArray,e = .returned (.tuple #[.string r,.bool false])∧Below wx.heap.size wx w'):=hid (fun wx=>by
  have:=zi8 (ct.extract (k+1) ct.size) wx (by omega)
  rw[zbh,hok] at this
  exact this.mono (fun e w' ⟨r,h1,h2,h3⟩=>⟨r,h1,h3⟩))
 have hH:=hid h
 clear h
 go_enter Tryz.func203,Tryz.ntmps203
 go_wp2_with fail
 refine hP.out.mono ?_
 rintro e w1 ⟨rfl,hC1,hf1⟩
 have hcc:=hC1.cells
 have hl1:=hC1.lt
 have q0:w1.cell? ⟨C,0,none⟩=some (.string ct):=za0 hcc 0 _ rfl
 have q2:w1.cell? ⟨C,2,none⟩=some (.int .i64 (k:Nat)):=za0 hcc 2 _ rfl
 have q0a:∀ ob,(w1.alloc ob).cell? ⟨C,0,none⟩=some (.string ct):=fun ob=>za0 ((Below.heap_alloc w1 ob C hl1).trans hcc) 0 _ rfl
 have q2a:∀ ob,(w1.alloc ob).cell? ⟨C,2,none⟩=some (.int .i64 (k:Nat)):=fun ob=>za0 ((Below.heap_alloc w1 ob C hl1).trans hcc) 2 _ rfl
 have hall:=hid (And.intro hC1 hf1)
 clear hC1 hf1 hcc
 go_wp2_with fail
 obtain ⟨W,hW⟩:∃ W,W=w1.alloc (.cells #[.pointer ((ms[o.j]?).map Mem.ad),.bool o.image,.bool false] 253):=⟨_,rfl⟩
 have hbW:Hid (Below w1.heap.size w1 W):=hid (by rw[hW];exact (Below.refl _ _).alloc (Nat.le_refl _) _)
 have k0:W.cell? ⟨C,0,none⟩=some (.string ct):=by rw[hW];exact q0a _
 have k2:W.cell? ⟨C,2,none⟩=some (.int .i64 (k:Nat)):=by rw[hW];exact q2a _
 have hlW:C<W.heap.size:=Nat.lt_of_lt_of_le hl1 hbW.out.size
 have hI0:(0:Int)≤(k:Int)+1:=by omega
 have hI1:(k:Int)+1≤(ct.size:Int):=by omega
 have hI2:((k:Int)+1).toNat=k+1:=by omega
 have hI3:(k:Int)<(ct.size:Int):=by omega
 have hI4:k<ct.size:=by omega
 have hI5:IntKind.i64.wrap ((k:Int)+1)=(k:Int)+1:=by rw[IntKind.wrap_i64];omega
 rw[← hW]
 clear hW q0 q2 q0a q2a
 go_region_held3 (fun w'=>w'.cell? ⟨C,0,none⟩=some (.string ct)∧w'.cell? ⟨C,2,none⟩=some (.int .i64 (k:Nat)))
  ((refine ⟨?_,?_⟩ <;> (first|assumption|with_reducible exact k0|with_reducible exact k2)))
  ((go_at_call 237;refine (hAd.out W.drew).mono ?_;rintro e w2 ⟨r,rfl,hb2⟩;have j0:=(hb2.cell (p:=⟨C,0,none⟩) hlW).trans k0;have j2:=(hb2.cell (p:=⟨C,2,none⟩) hlW).trans k2))
 have hb2H:=hid hb2
 clear hb2
 go_wp2
 go_ret
 have hb:Below C w w1:=hall.out.2.below (Nat.le_of_lt hcl) (by simp)
 have hb12:Below w1.heap.size w1 w2:=hbW.out.trans ((Below.refl _ W).drew.trans hb2H.out |>.mono hbW.out.size)
 exact ⟨rfl,hall.out.1.below hb12,hb.trans (hb12.mono (by have:=hb.size;omega))⟩
set_option maxRecDepth 100000 in
set_option maxHeartbeats 4000000 in
theorem zq9 (C:Nat) (ct:ByteArray) (f k:Nat) (x3 x4 x5:Value) (w:World) (h:w.heap[C]?=some (.cells [.string ct,.int .i64 (f:Nat),.int .i64 (k:Nat),x3,x4,x5].toArray 168 (0,0))) (hk:k≤ct.size) (hp:Lib.hasPrefix (ct.data.toList.drop k) [93]=true) (R:Bool→World→Prop)
  (hc:Calls Tryz.prog 203 #[.pointer (some ⟨C,0,none⟩)] w.drew fun e w'=>∃ b,e = .returned (.bool b)∧R b w') :
  Calls Tryz.prog 158 #[.pointer (some ⟨C,0,none⟩)] w fun e w'=>∃ b,e = .returned (.bool b)∧R b w':=by
 have h1:=hid (zdh C ct ⟨#[93]⟩ f k x3 x4 x5 w h hk)
 rw[show (⟨#[93]⟩:ByteArray).data.toList=[93] from rfl,hp] at h1
 have hcH:=hid hc
 clear h hc
 go_enter Tryz.func158,Tryz.ntmps158
 go_wp2_with fail
 refine h1.out.mono ?_
 rintro e w' ⟨rfl,rfl⟩
 go_wp2_with fail
 refine hcH.out.mono ?_
 rintro e w' ⟨b,rfl,hR⟩
 go_wp2
 go_ret
 exact ⟨b,rfl,hR⟩
set_option maxRecDepth 100000 in
set_option maxHeartbeats 4000000 in
theorem zq7 (C:Nat) (ct:ByteArray) (f k:Nat) (x3 x4 x5:Value) (w:World) (h:w.heap[C]?=some (.cells [.string ct,.int .i64 (f:Nat),.int .i64 (k:Nat),x3,x4,x5].toArray 168 (0,0))) (hk:k≤ct.size) (hp:Lib.hasPrefix (ct.data.toList.drop k) [93]=false) (hq:Lib.hasPrefix (ct.data.toList.drop k) [91]=true) (R:World→Prop)
  (hc:Calls Tryz.prog 204 #[.pointer (some ⟨C,0,none⟩),.string ⟨#[91]⟩] w.drew.drew fun e w'=>e = .returned (.tuple #[])∧R w') :
  Calls Tryz.prog 158 #[.pointer (some ⟨C,0,none⟩)] w fun e w'=>e = .returned (.bool true)∧R w':=by
 have h1:=hid (zdh C ct ⟨#[93]⟩ f k x3 x4 x5 w h hk)
 have h2:=hid (zdh C ct ⟨#[91]⟩ f k x3 x4 x5 w.drew h hk)
 rw[show (⟨#[93]⟩:ByteArray).data.toList=[93] from rfl,hp] at h1
 rw[show (⟨#[91]⟩:ByteArray).data.toList=[91] from rfl,hq] at h2
 have hcH:=hid hc
 clear h hc
 go_enter Tryz.func158,Tryz.ntmps158
 go_wp2_with fail
 refine h1.out.mono ?_
 rintro e w' ⟨rfl,rfl⟩
 go_wp2_with fail
 refine h2.out.mono ?_
 rintro e w' ⟨rfl,rfl⟩
 go_wp2_with fail
 refine hcH.out.mono ?_
 rintro e w' ⟨rfl,hR⟩
 go_wp2
 go_ret
 exact ⟨rfl,hR⟩
set_option maxRecDepth 100000 in
set_option maxHeartbeats 4000000 in
theorem zon (C:Nat) (ct:ByteArray) (f k:Nat) (x3 x4 x5:Value) (w:World) (h:w.heap[C]?=some (.cells [.string ct,.int .i64 (f:Nat),.int .i64 (k:Nat),x3,x4,x5].toArray 168 (0,0))) (hk:k≤ct.size) (hp:Lib.hasPrefix (ct.data.toList.drop k) [93]=false) (hq:Lib.hasPrefix (ct.data.toList.drop k) [91]=false) (hr:Lib.hasPrefix (ct.data.toList.drop k) [33,91]=true) (R:World→Prop)
  (hc:Calls Tryz.prog 204 #[.pointer (some ⟨C,0,none⟩),.string ⟨#[33,91]⟩] w.drew.drew.drew fun e w'=>e = .returned (.tuple #[])∧R w') :
  Calls Tryz.prog 158 #[.pointer (some ⟨C,0,none⟩)] w fun e w'=>e = .returned (.bool true)∧R w':=by
 have h1:=hid (zdh C ct ⟨#[93]⟩ f k x3 x4 x5 w h hk)
 have h2:=hid (zdh C ct ⟨#[91]⟩ f k x3 x4 x5 w.drew h hk)
 have h3:=hid (zdh C ct ⟨#[33,91]⟩ f k x3 x4 x5 w.drew.drew h hk)
 rw[show (⟨#[93]⟩:ByteArray).data.toList=[93] from rfl,hp] at h1
 rw[show (⟨#[91]⟩:ByteArray).data.toList=[91] from rfl,hq] at h2
 rw[show (⟨#[33,91]⟩:ByteArray).data.toList=[33,91] from rfl,hr] at h3
 have hcH:=hid hc
 clear h hc
 go_enter Tryz.func158,Tryz.ntmps158
 go_wp2_with fail
 refine h1.out.mono ?_
 rintro e w' ⟨rfl,rfl⟩
 go_wp2_with fail
 refine h2.out.mono ?_
 rintro e w' ⟨rfl,rfl⟩
 go_wp2_with fail
 refine h3.out.mono ?_
 rintro e w' ⟨rfl,rfl⟩
 go_wp2_with fail
 refine hcH.out.mono ?_
 rintro e w' ⟨rfl,hR⟩
 go_wp2
 go_ret
 exact ⟨rfl,hR⟩
set_option maxRecDepth 100000 in
set_option maxHeartbeats 4000000 in
theorem zq4 (C:Nat) (ct:ByteArray) (f k:Nat) (x3 x4 x5:Value) (w:World) (h:w.heap[C]?=some (.cells [.string ct,.int .i64 (f:Nat),.int .i64 (k:Nat),x3,x4,x5].toArray 168 (0,0))) (hk:k≤ct.size) (hp:Lib.hasPrefix (ct.data.toList.drop k) [93]=false) (hq:Lib.hasPrefix (ct.data.toList.drop k) [91]=false) (hr:Lib.hasPrefix (ct.data.toList.drop k) [33,91]=false) :
  Calls Tryz.prog 158 #[.pointer (some ⟨C,0,none⟩)] w fun e w'=>e = .returned (.bool false)∧Below w.heap.size w w':=by
 have h1:=hid (zdh C ct ⟨#[93]⟩ f k x3 x4 x5 w h hk)
 have h2:=hid (zdh C ct ⟨#[91]⟩ f k x3 x4 x5 w.drew h hk)
 have h3:=hid (zdh C ct ⟨#[33,91]⟩ f k x3 x4 x5 w.drew.drew h hk)
 rw[show (⟨#[93]⟩:ByteArray).data.toList=[93] from rfl,hp] at h1
 rw[show (⟨#[91]⟩:ByteArray).data.toList=[91] from rfl,hq] at h2
 rw[show (⟨#[33,91]⟩:ByteArray).data.toList=[33,91] from rfl,hr] at h3
 clear h
 go_enter Tryz.func158,Tryz.ntmps158
 go_wp2_with fail
 refine h1.out.mono ?_
 rintro e w' ⟨rfl,rfl⟩
 go_wp2_with fail
 refine h2.out.mono ?_
 rintro e w' ⟨rfl,rfl⟩
 go_wp2_with fail
 refine h3.out.mono ?_
 rintro e w' ⟨rfl,rfl⟩
 go_wp2
 go_ret
 exact ⟨rfl,(Below.refl _ _).drew.drew.drew⟩
theorem zot (C:Nat) (T:Nat) (cs:List Value) (P M:List Mem) (a:Mem) (w:World) (h:Ch w C 3 T cs (P++a::M)) :
  Calls Tryz.prog 238 #[.pointer (some ⟨C,3,none⟩),.pointer (some ⟨a.m,0,none⟩),.pointer none] w fun e w'=>e = .returned (.agg #[.pointer (hd M none),.pointer (lst M none)])∧Ch w' C 3 T cs (P++[a])∧Seg w' none M none∧Fr (C::blks (P++a::M)) w w':=by
 cases M with
 | nil=>
  have hs:=h.seg
  rw[seg_append] at hs
  have ha:=hs.2.cells
  refine (zps C 3 a [] w (za0 ha 9 _ rfl) (h.mlt a.m (by simp[blks]))).mono ?_
  rintro e w' ⟨rfl,hb⟩
  refine ⟨rfl,h.move (fun x hx=>hb.block x ?_),trivial,Fr.zhq hb⟩
  rcases List.mem_cons.1 hx with rfl|hx
  ·exact h.lt
  ·exact h.mlt x hx
 | cons m0 M=>exact zxn C 3 T cs P M a m0 w h
theorem zoh (P M:List Mem) (a:Mem) (os:List Opn) (h:∀ x∈os,x.j<P.length):zb4 (P++[a]) os=zb4 (P++a::M) os:=by
 rw[zd5 _ _ _ h,zd5 _ _ _ h]
theorem Cut.taken {C:Nat} {ct:ByteArray} {f k:Nat} {P M:List Mem} {a:Mem} {os:List Opn} {sa:Option Addr} {sc:Nat} {A:Nat→Prop} {w w':World} (h:Cut C ct f k (P++a::M) os sa sc A w) (hj:∀ x∈os,x.j<P.length) (hc:Ch w' C 3 168 (zbo ct f k (.slice sa os.length sc)) (P++[a])) (hf:Fr (C::blks (P++a::M)) w w') :
  Cut C ct f k (P++[a]) os sa sc A w':=by
 have hlt:=h.own.lt
 have hsub:∀ x∈blks (P++[a]),x∈blks (P++a::M):=fun x hx=>by
  rw[zc8] at hx ⊢
  simp[blks] at hx ⊢
  rcases hx with hx|hx
  ·exact .inl hx
  ·exact .inr (.inl hx)
 have hown:w'.ownsRow (C+1) 253 3 (.slice sa os.length sc) os.length (zb4 (P++[a]) os):=by
  rw[zoh P M a os hj]
  rcases h.own.2 with h2|⟨g,cap,cur,hv,hg,hh,r'⟩
  ·exact ⟨h.own.1,.inl h2⟩
  ·refine ⟨h.own.1,.inr ⟨g,cap,cur,hv,hg,?_,r'⟩⟩
   have hgo:(Value.slice sa os.length sc).ownBlock=some g:=by rw[hv];rfl
   rw[hf.block g (hlt g hgo).2 (fun hm=>by
    rcases List.mem_cons.1 hm with hm|hm
    ·have:=(hlt g hgo).1;omega
    ·exact h.sep g hm hgo.symm)]
   exact hh
 have hmem:∀ x∈P++[a],x∈P++a::M:=fun x hx=>by
  rcases List.mem_append.1 hx with hx|hx
  ·exact List.mem_append_left _ hx
  ·simp at hx;subst hx;simp
 refine ⟨hc,?_,?_,hown,fun x hx=>h.sep x (hsub x hx),fun x hx=>h.above x (hsub x hx),fun x hx=>by have:=hj x hx;simp;omega,h.up,h.fk,h.kl,h.small,?_,fun x hx=>h.runs x (hmem x hx)⟩
 ·intro e he
  exact (h.kids e (hmem e he)).move (fun x hx=>hx) (fun x hx=>hf.block x (h.dead x hx).1 (h.dead x hx).2.1)
 ·intro x hx
  have hd:=h.dead x hx
  exact ⟨Nat.lt_of_lt_of_le hd.1 hf.size,fun hm=>hd.2.1 (by
   rcases List.mem_cons.1 hm with rfl|hm
   ·exact List.mem_cons_self
   ·exact List.mem_cons_of_mem _ (hsub x hm)),hd.2.2⟩
 ·have hb:=h.bytes
  rw[show P++a::M=(P++[a])++M by simp,List.map_append,zec] at hb
  omega
theorem Ch.zy9 {w w':World} {C T:Nat} {cs:List Value} {P:List Mem} {a a':Mem} (h:Ch w C 3 T cs (P++[a])) (hm:a'.m=a.m) (hb:w'.heap[a.m]?=some (.cells (zd2 a' (lst P none) none).toArray 179 (0,0))) (ho:∀ x,x∈C::blks (P++[a])→x≠a.m→w'.heap[x]?=w.heap[x]?):Ch w' C 3 T cs (P++[a']):=by
 have hbl:blks (P++[a'])=blks (P++[a]):=by simp[blks,hm]
 have hs:=(seg_append _ _ _ _ _).1 h.seg
 have hnd:=h.nodup
 have had:a'.ad=a.ad:=by simp[Mem.ad,hm]
 have hCa:C≠a.m:=fun e=>h.out (by rw[e];simp[blks])
 have hPn:∀ e∈P,e.m≠a.m:=fun e he e1=>by
  rw[zab] at hnd
  exact (List.nodup_append.1 hnd).2.2 e.m (List.mem_map_of_mem he) a.m (by simp[blks]) e1
 refine ⟨(seg_append _ _ _ _ _).2 ⟨?_,?_⟩,?_,by rw[hbl];exact hnd,by rw[hbl];exact h.out⟩
 ·have h1:Seg w' none P (hd [a] none):=hs.1.move (fun e he=>ho e.m (List.mem_cons_of_mem _ (by simp[blks];exact .inl ⟨e,he,rfl⟩)) (hPn e he))
  have:hd [a'] none=hd [a] none:=by simp[hd,had]
  rw[this];exact h1
 ·refine ⟨?_,trivial⟩
  rw[hm];exact hb
 ·have h1:=h.hdr.move (ho C List.mem_cons_self hCa)
  have e1:hd (P++[a']) none=hd (P++[a]) none:=by rw[zd3,zd3];simp[hd,had]
  have e2:lst (P++[a']) none=lst (P++[a]) none:=by rw[zcl,zcl,had]
  rw[e1,e2];exact h1
theorem Cut.sealed {C:Nat} {ct:ByteArray} {f k:Nat} {P:List Mem} {a a':Mem} {os:List Opn} {sa:Option Addr} {sc:Nat} {A A':Nat→Prop} {w w':World} (h:Cut C ct f k (P++[a]) os sa sc A w) (hj:∀ x∈os,x.j<P.length) (hm:a'.m=a.m) (hf:Fr [a.m] w w') (hb:w'.heap[a.m]?=some (.cells (zd2 a' (lst P none) none).toArray 179 (0,0)))
  (hA:∀ x,A x→A' x) (hA':∀ x,A' x→x<w.heap.size∧x ∉ C::blks (P++[a])∧some x≠(Value.slice sa os.length sc).ownBlock) (hk:KRep w A' a'.kf a'.p.kids) (ht:a'.p.text=[]) (hr:a'.p.rs=0):Cut C ct f k (P++[a']) os sa sc A' w':=by
 have hbl:blks (P++[a'])=blks (P++[a]):=by simp[blks,hm]
 have hlt:=h.own.lt
 have hin:a.m∈blks (P++[a]):=by simp[blks]
 have hown:w'.ownsRow (C+1) 253 3 (.slice sa os.length sc) os.length (zb4 (P++[a']) os):=by
  rw[zd5 _ _ _ hj]
  have h0:=h.own
  rw[zd5 _ _ _ hj] at h0
  rcases h0.2 with h2|⟨g,cap,cur,hv,hg,hh,r'⟩
  ·exact ⟨h0.1,.inl h2⟩
  ·refine ⟨h0.1,.inr ⟨g,cap,cur,hv,hg,?_,r'⟩⟩
   have hgo:(Value.slice sa os.length sc).ownBlock=some g:=by rw[hv];rfl
   rw[hf.block g (hlt g hgo).2 (fun hm=>by
    simp at hm;rw[hm] at hgo
    exact h.sep a.m hin hgo.symm)]
   exact hh
 have hkeep:∀ x,A' x→w'.heap[x]?=w.heap[x]?:=fun x hx=>hf.block x (hA' x hx).1 (fun hm=>(hA' x hx).2.1 (by simp at hm;rw[hm];exact List.mem_cons_of_mem _ hin))
 refine ⟨h.ch.zy9 hm hb (fun x hx hne=>hf.block x ?_ (by simpa using hne)),?_,?_,hown,by rw[hbl];exact h.sep,by rw[hbl];exact h.above,fun x hx=>by have:=hj x hx;simp;omega,h.up,h.fk,h.kl,h.small,?_,?_⟩
 ·rcases List.mem_cons.1 hx with rfl|hx
  ·exact h.lt
  ·exact h.ch.mlt x hx
 ·intro e he
  rcases List.mem_append.1 he with he|he
  ·exact (h.kids e (List.mem_append_left _ he)).move hA (fun x hx=>hkeep x (hA x hx))
  ·simp at he;subst he
   exact hk.move (fun x hx=>hx) hkeep
 ·intro x hx
  have hd:=hA' x hx
  rw[hbl]
  exact ⟨Nat.lt_of_lt_of_le hd.1 hf.size,hd.2⟩
 ·have hb0:=h.bytes
  rw[List.map_append,zec] at hb0 ⊢
  simp[txt,ht] at hb0 ⊢
  omega
 ·intro x hx
  rcases List.mem_append.1 hx with hx|hx
  ·exact h.runs x (List.mem_append_left _ hx)
  ·simp at hx;subst hx;omega
def jumps (J:Nat→Act→World→Prop) (Q:Exit→Act→World→Prop):Exit→Act→World→Prop
 | .goto l,a,w=>J l a w
 | e,a,w=>Q e a w
theorem zly {P:Program} {a:Act} {w:World} {Q:Exit→Act→World→Prop} {c:Code} (R:Nat→Code) (J:Nat→Act→World→Prop) (μ:Nat→Act→World→Nat) (hR:∀ l a w,J l a w→findLabel c l=some (R l))
  (first:c.wp P (jumps J Q) a w) (pass:∀ l a w,J l a w→(R l).wp P (jumps (fun l' a' w'=>J l' a' w'∧μ l' a' w' < μ l a w) Q) a w):(Code.scope c).wp P Q a w:=by
 intro b k cs
 have hg:∀ l a w,J l a w→gotoIn l (.inScope c::k)=some (.code (R l) :: .inScope c::k):=fun l a w h=>by simp[gotoIn,hR l a w h]
 have key:∀ n l a w,μ l a w<n→J l a w→∃ e a' w',Q e a' w'∧Arrives P (lone (b.at a (.code (R l) :: .inScope c::k)) cs w) b k cs e a' w':=by
  intro n
  induction n with
  | zero=>intro l a w h;omega
  | succ n ih=>
   intro l a w hn hJ
   obtain ⟨e,a1,w1,hq,harr⟩:=pass l a w hJ b (.inScope c::k) cs
   match e,hq,harr with
   | .normal,hq,harr=>exact ⟨_,a1,w1,hq,Steps.trans harr (.one step_inScope)⟩
   | .exit id,hq,harr=>exact ⟨.exit id,a1,w1,hq,fun k' hk=>harr k' (by simp[exitTo,hk])⟩
   | .goto l',hq,harr=>
    obtain ⟨e2,a2,w2,hq2,harr2⟩:=ih l' a1 w1 (by have:=hq.2;omega) hq.1
    exact ⟨e2,a2,w2,hq2,.of_steps (harr _ (hg l' a1 w1 hq.1)) harr2⟩
   | .ret,hq,harr=>exact ⟨_,a1,w1,hq,harr⟩
   | .panic _,hq,harr=>exact ⟨_,a1,w1,hq,harr⟩
   | .outgrown,hq,harr=>exact ⟨_,a1,w1,hq,harr⟩
 obtain ⟨e,a1,w1,hq,harr⟩:=first b (.inScope c::k) cs
 match e,hq,harr with
 | .normal,hq,harr=>exact ⟨_,a1,w1,hq,.head step_scope (Steps.trans harr (.one step_inScope))⟩
 | .exit id,hq,harr=>exact ⟨.exit id,a1,w1,hq,fun k' hk=>.head step_scope (harr k' (by simp[exitTo,hk]))⟩
 | .goto l',hq,harr=>
  obtain ⟨e2,a2,w2,hq2,harr2⟩:=key _ l' a1 w1 (Nat.lt_succ_self _) hq
  exact ⟨e2,a2,w2,hq2,.of_steps (.head step_scope (harr _ (hg l' a1 w1 hq))) harr2⟩
 | .ret,hq,harr=>exact ⟨_,a1,w1,hq,.of_steps (.one step_scope) harr⟩
 | .panic _,hq,harr=>exact ⟨_,a1,w1,hq,.of_steps (.one step_scope) harr⟩
 | .outgrown,hq,harr=>exact ⟨_,a1,w1,hq,.of_steps (.one step_scope) harr⟩
theorem Cut.frame {C:Nat} {ct:ByteArray} {f k:Nat} {ms:List Mem} {os:List Opn} {sa:Option Addr} {sc:Nat} {A:Nat→Prop} {w w':World} {L:List Nat} (h:Cut C ct f k ms os sa sc A w) (hf:Fr L w w') (hL:∀ x∈L,x ∉ C::blks ms∧¬ A x∧some x≠(Value.slice sa os.length sc).ownBlock):Cut C ct f k ms os sa sc A w':=by
 have hlt:=h.own.lt
 have hown:w'.ownsRow (C+1) 253 3 (.slice sa os.length sc) os.length (zb4 ms os):=by
  rcases h.own.2 with h2|⟨g,cap,cur,hv,hg,hh,r'⟩
  ·exact ⟨h.own.1,.inl h2⟩
  ·refine ⟨h.own.1,.inr ⟨g,cap,cur,hv,hg,?_,r'⟩⟩
   have hgo:(Value.slice sa os.length sc).ownBlock=some g:=by rw[hv];rfl
   rw[hf.block g (hlt g hgo).2 (fun hm=>(hL g hm).2.2 hgo.symm)]
   exact hh
 refine ⟨h.ch.move (fun x hx=>hf.block x ?_ (fun hm=>(hL x hm).1 hx)),fun e he=>(h.kids e he).move (fun x hx=>hx) (fun x hx=>hf.block x (h.dead x hx).1 (fun hm=>(hL x hm).2.1 hx)),fun x hx=>⟨Nat.lt_of_lt_of_le (h.dead x hx).1 hf.size,(h.dead x hx).2⟩,hown,h.sep,h.above,h.inl,h.up,h.fk,h.kl,h.small,h.bytes,h.runs⟩
 rcases List.mem_cons.1 hx with rfl|hx
 ·exact h.lt
 ·exact h.ch.mlt x hx
def madeCells (kd:Int) (r:ByteArray):List Value:=[.int .i64 kd,.string r,.string ⟨#[]⟩,undef,undef,.int .i64 0,.bool false,.bool false]
structure zw8 (C b K:Nat) (ct r:ByteArray) (P Q:List Mem) (a:Mem) (os:List Opn) (sa:Option Addr) (sc:Nat) (A:Nat→Prop) (w:World):Prop where
 cut:Cut C ct K K (P++[a]) os sa sc A w
 ch:Ch w b 3 177 (madeCells 13 r) Q
 kids:Kd w A Q
 dead:∀ x,A x→x<w.heap.size∧x ∉ b::blks Q
 txt:txt (Q.map Mem.p)≤1000000
 runs:∀ x∈Q,x.p.rs≤1000000
 sep:∀ x∈b::blks Q,x ∉ C::blks (P++[a])∧¬ A x∧some x≠(Value.slice sa os.length sc).ownBlock
theorem zvb {C b K:Nat} {ct r:ByteArray} {P Q:List Mem} {a:Mem} {os:List Opn} {sa:Option Addr} {sc:Nat} {A:Nat→Prop} {w3 W4:World} (h:Cut C ct K K (P++a::Q) os sa sc A w3) (hup:∀ x∈os,x.j<P.length) (hc:Ch W4 C 3 168 (zbo ct K K (.slice sa os.length sc)) (P++[a])) (hs:Seg W4 none Q none) (hf:Fr (C::blks (P++a::Q)) w3 W4) (hb:W4.heap[b]?=some (.cells #[.int .i64 13,.string r,.string ⟨#[]⟩,.pointer (hd Q none),.pointer (lst Q none),.int .i64 0,.bool false,.bool false] 177 (0,0))) (hbz:w3.heap.size≤b) :
  zw8 C b K ct r P Q a os sa sc A W4:=by
 have hnd:=h.ch.nodup
 rw[show P++a::Q=(P++[a])++Q by simp,zab] at hnd
 have hnd':=List.nodup_append.1 hnd
 have hin:∀ x∈blks Q,x∈blks (P++a::Q):=fun x hx=>by rw[show P++a::Q=(P++[a])++Q by simp,zab];exact List.mem_append_right _ hx
 have hin2:∀ x∈blks (P++[a]),x∈blks (P++a::Q):=fun x hx=>by rw[show P++a::Q=(P++[a])++Q by simp,zab];exact List.mem_append_left _ hx
 have hlt:∀ x∈blks (P++a::Q),x<w3.heap.size:=fun x hx=>h.ch.mlt x hx
 have hmem:∀ e∈Q,e∈P++a::Q:=fun e he=>by simp[he]
 refine ⟨h.taken hup hc hf,⟨hs,⟨hb,by show 3+1<8;omega⟩,hnd'.2.1,fun hm=>by have:=hlt b (hin b hm);omega⟩,fun e he=>(h.kids e (hmem e he)).move (fun x hx=>hx) (fun x hx=>hf.block x (h.dead x hx).1 (h.dead x hx).2.1),fun x hx=>?_,?_,fun x hx=>h.runs x (hmem x hx),fun x hx=>?_⟩
 ·have hd:=h.dead x hx
  refine ⟨Nat.lt_of_lt_of_le hd.1 hf.size,fun hm=>?_⟩
  rcases List.mem_cons.1 hm with hm|hm
  ·omega
  ·exact hd.2.1 (List.mem_cons_of_mem _ (hin x hm))
 ·have hb:=h.bytes
  rw[show P++a::Q=(P++[a])++Q by simp,List.map_append,zec] at hb
  have:=h.kl
  have:=h.small
  omega
 ·rcases List.mem_cons.1 hx with rfl|hx
  ·refine ⟨fun hm=>?_,fun hA=>by have:=(h.dead x hA).1;omega,fun e=>by have:=(h.own.lt x e.symm).2;omega⟩
   rcases List.mem_cons.1 hm with hm|hm
   ·have:=h.lt;omega
   ·have:=hlt x (hin2 x hm);omega
  ·refine ⟨fun hm=>?_,fun hA=>(h.dead x hA).2.1 (List.mem_cons_of_mem _ (hin x hx)),h.sep x (hin x hx)⟩
   rcases List.mem_cons.1 hm with hm|hm
   ·exact h.ch.out (by rw[← hm];exact hin x hx)
   ·exact hnd'.2.2 x hm x hx rfl
theorem zg1 {C b K:Nat} {ct r:ByteArray} {P Q l':List Mem} {a:Mem} {os os6:List Opn} {sa:Option Addr} {sc:Nat} {A A5:Nat→Prop} {W4 w5 w6 w7:World} {cs:List Value} {kd:Int} {t:List UInt8} (hM:zw8 C b K ct r P Q a os sa sc A W4) (hS:zra b 3 177 cs Q A W4 l' A5 w5) (hC:Cut C ct K K (P++[a]) os6 sa sc A w6) (hup:∀ x∈os6,x.j<P.length) (hz:w5.heap.size≤w6.heap.size) (hkeep:∀ x,A x∨A5 x∨x∈blks l'→w6.heap[x]?=w5.heap[x]?)
  (hf:Fr [a.m] w6 w7) (hb:w7.heap[a.m]?=some (.cells (zd2 ⟨a.m,.mk kd t [] (zd7 (Q.map Mem.p)) 0 false false,hd l' none,lst l' none⟩ (lst P none) none).toArray 179 (0,0))) :
  Cut C ct K K (P++[⟨a.m,.mk kd t [] (zd7 (Q.map Mem.p)) 0 false false,hd l' none,lst l' none⟩]) os6 sa sc (fun x=>A x∨A5 x∨x∈blks l') w7:=by
 have hob:(Value.slice sa os6.length sc).ownBlock=(Value.slice sa os.length sc).ownBlock:=by cases sa <;> rfl
 have hfar:∀ x,W4.heap.size≤x→x ∉ C::blks (P++[a])∧some x≠(Value.slice sa os6.length sc).ownBlock:=fun x hx=>by
  refine ⟨fun hm=>?_,fun e=>?_⟩
  ·rcases List.mem_cons.1 hm with hm|hm
   ·have:=hM.cut.lt;omega
   ·have:=hM.cut.ch.mlt x hm;omega
  ·rw[hob] at e
   have:=(hM.cut.own.lt x e.symm).2;omega
 have hq:∀ x∈blks Q,x ∉ C::blks (P++[a])∧some x≠(Value.slice sa os6.length sc).ownBlock:=fun x hx=>by
  rw[hob];have:=hM.sep x (List.mem_cons_of_mem _ hx);exact ⟨this.1,this.2.2⟩
 have hk:KRep w5 (fun x=>A x∨A5 x∨x∈blks l') (hd l' none) (l'.map Mem.p):=zhy hS.ch.seg (fun e he=>.inr (.inr (List.mem_map_of_mem he))) (fun e he=>(hS.kids e he).move (fun x hx=>.inr (.inl hx)) (fun _ _=>rfl))
 refine hC.sealed hup rfl hf hb (fun x hx=>.inl hx) (fun x hx=>?_) ?_ rfl rfl
 ·rcases hx with hx|hx|hx
  ·exact hC.dead x hx
  ·refine ⟨Nat.lt_of_lt_of_le (hS.dead x hx).1 hz,?_⟩
   rcases hS.old x hx with h1|h1|h1
   ·exact (hC.dead x h1).2
   ·exact hq x h1
   ·exact hfar x h1
  ·refine ⟨Nat.lt_of_lt_of_le (hS.ch.mlt x hx) hz,?_⟩
   rcases hS.live x hx with h1|h1
   ·exact hq x h1
   ·exact hfar x h1
 ·have h1:=hk.move (fun x hx=>hx) (w':=w6) hkeep
  rw[hS.part] at h1
  exact h1
def zhn (t:List UInt8) (im:Bool) (l:List Pt):Pt:=.mk (if im then 13 else 12) t [] (zd7 l) 0 false false
theorem zou {sa:Option Addr} {n sc x:Nat} (hx:x∈ownL sa):(Value.slice sa n sc).ownBlock=some x:=by
 cases sa <;> simp[ownL] at hx;subst hx;rfl
theorem zq3 {C b K:Nat} {ct r:ByteArray} {P Q l':List Mem} {a:Mem} {os:List Opn} {sa:Option Addr} {sc:Nat} {A A5:Nat→Prop} {W4 w5 w5' w6:World} {cs:List Value} (hM:zw8 C b K ct r P Q a os sa sc A W4) (hS:zra b 3 177 cs Q A W4 l' A5 w5) (hfb:Fr [b] w5 w5') (hf6:Fr (ownL sa) w5' w6):∀ x,A x∨A5 x∨x∈blks l'→w6.heap[x]?=w5.heap[x]?:=by
 have hz:=hS.fr.size
 have hz':=hfb.size
 have hA:∀ x,A x→x<w5.heap.size∧x≠b∧x ∉ ownL sa:=fun x hx=>⟨by have:=(hM.dead x hx).1;omega,fun e=>(hM.sep b List.mem_cons_self).2.1 (e ▸ hx),fun hm=>(hM.cut.dead x hx).2.2 (zou hm).symm⟩
 have hQ:∀ x∈blks Q,x ∉ ownL sa:=fun x hx hm=>(hM.sep x (List.mem_cons_of_mem _ hx)).2.2 (zou hm).symm
 have hF:∀ x,W4.heap.size≤x→x ∉ ownL sa:=fun x hx hm=>by have:=(hM.cut.own.lt x (zou hm)).2;omega
 have key:∀ x,x<w5.heap.size∧x≠b∧x ∉ ownL sa→w6.heap[x]?=w5.heap[x]?:=fun x h=>by
  rw[hf6.block x (by omega) h.2.2,hfb.block x h.1 (by simpa using h.2.1)]
 intro x hx
 apply key
 rcases hx with hx|hx|hx
 ·exact hA x hx
 ·have hd:=hS.dead x hx
  refine ⟨hd.1,fun e=>hd.2 (by rw[e];exact List.mem_cons_self),?_⟩
  rcases hS.old x hx with h1|h1|h1
  ·exact (hA x h1).2.2
  ·exact hQ x h1
  ·exact hF x h1
 ·refine ⟨hS.ch.mlt x hx,fun e=>hS.ch.out (by rw[← e];exact hx),?_⟩
  rcases hS.live x hx with h1|h1
  ·exact hQ x h1
  ·exact hF x h1
set_option maxRecDepth 100000 in
set_option maxHeartbeats 4000000 in
theorem close_some (C:Nat) (ct:ByteArray) (f k n:Nat) (P M:List Mem) (a:Mem) (os:List Opn) (o:Opn) (sa:Option Addr) (sc:Nat) (A:Nat→Prop) (w:World) (h:Cut C ct f k (P++a::M) (os++[o]) sa sc A w) (hoj:o.j=P.length) (hol:os.length≤1000000) (hdd:o.dead=false) (hk:k+1≤ct.size) (hok:S.zd1 (ct.data.toList.drop (k+1))=true) (hn:(S.addrOf (ct.data.toList.drop (k+1))).length=n) (hkn:k+(3+n)≤ct.size) (R:Ending→World→Prop) (hR:∀ e w',(∃ m1 A' kf kl,e = .returned (.bool true)∧Cut C ct (k+(3+n)) (k+(3+n)) (P++[⟨a.m,zhn (S.addrOf (ct.data.toList.drop (k+1))) o.image ((M++zcp ct f k m1).map Mem.p),kf,kl⟩]) (if o.image then os else os.map Opn.kill) sa sc A' w'∧Below C w w')→R e w') :
  Calls Tryz.prog 203 #[.pointer (some ⟨C,0,none⟩)] w R:=by
 have hcl:=h.lt
 have hsm:=h.small
 have hP:=hid (znj C ct f k (P++a::M) os o sa sc A w h hol)
 have hga:((P++a::M)[o.j]?).map Mem.ad=some ⟨a.m,0,none⟩:=by rw[hoj];simp
 rw[hdd,hga] at hP
 have hz:(ct.extract (k+1) ct.size).size=ct.size-(k+1):=by simp
 obtain ⟨t,ht⟩:∃ t,S.addrOf (ct.data.toList.drop (k+1))=t:=⟨_,rfl⟩
 rw[ht] at hn hR
 have hRH:=hid hR
 clear hR
 have hAd:Hid (∀ wx,Calls Tryz.prog 237 #[.string (ct.extract (k+1) ct.size)] wx fun e w'=>∃ r:ByteArray,e = .returned (.tuple #[.string r,.bool true])∧Hid (r.data.toList=t)∧Below wx.heap.size wx w'):=hid (fun wx=>by
  have:=zi8 (ct.extract (k+1) ct.size) wx (by omega)
  rw[zbh,hok,ht] at this
  exact this.mono (fun e w' ⟨r,h1,h2,h3⟩=>⟨r,h1,hid (h2.out rfl),h3⟩))
 have hup:Hid (∀ x∈os,x.j<P.length):=hid (fun x hx=>by
  have:=(List.pairwise_append.1 h.up).2.2 x hx o (by simp)
  omega)
 have hbm:Hid (∀ x∈C::blks (P++a::M),x<w.heap.size):=hid (fun x hx=>by
  rcases List.mem_cons.1 hx with rfl|hx
  ·exact h.lt
  ·exact h.ch.mlt x hx)
 have hH:=hid h
 clear h ht
 go_enter Tryz.func203,Tryz.ntmps203
 go_wp2_with fail
 refine hP.out.mono ?_
 rintro e w1 ⟨rfl,hC1,hf1⟩
 have hcc:=hC1.cells
 have hl1:=hC1.lt
 have q0a:∀ ob,(w1.alloc ob).cell? ⟨C,0,none⟩=some (.string ct):=fun ob=>za0 ((Below.heap_alloc w1 ob C hl1).trans hcc) 0 _ rfl
 have q2a:∀ ob,(w1.alloc ob).cell? ⟨C,2,none⟩=some (.int .i64 (k:Nat)):=fun ob=>za0 ((Below.heap_alloc w1 ob C hl1).trans hcc) 2 _ rfl
 have hs01:w.heap.size≤w1.heap.size:=hf1.size
 have hall:=hid (And.intro hC1 hf1)
 clear hC1 hf1 hcc
 go_wp2_with fail
 obtain ⟨W,hW⟩:∃ W,W=w1.alloc (.cells #[.pointer (some ⟨a.m,0,none⟩),.bool o.image,.bool false] 253):=⟨_,rfl⟩
 have hbW:Hid (Below w1.heap.size w1 W):=hid (by rw[hW];exact (Below.refl _ _).alloc (Nat.le_refl _) _)
 have hsW:W.heap.size=w1.heap.size+1:=by rw[hW];simp
 have hxW:W.heap[w1.heap.size]?=some (.cells #[.pointer (some ⟨a.m,0,none⟩),.bool o.image,.bool false] 253 (0,0)):=by rw[hW];exact za1 _ _
 have k0:W.cell? ⟨C,0,none⟩=some (.string ct):=by rw[hW];exact q0a _
 have k2:W.cell? ⟨C,2,none⟩=some (.int .i64 (k:Nat)):=by rw[hW];exact q2a _
 have hlW:C<W.heap.size:=Nat.lt_of_lt_of_le hl1 hbW.out.size
 have hI0:(0:Int)≤(k:Int)+1:=by omega
 have hI1:(k:Int)+1≤(ct.size:Int):=by omega
 have hI2:((k:Int)+1).toNat=k+1:=by omega
 have hI3:(k:Int)<(ct.size:Int):=by omega
 have hI4:k<ct.size:=by omega
 have hI5:IntKind.i64.wrap ((k:Int)+1)=(k:Int)+1:=by rw[IntKind.wrap_i64];omega
 obtain ⟨bx,hbx⟩:∃ bx,bx=w1.heap.size:=⟨_,rfl⟩
 rw[← hW,← hbx]
 rw[← hbx] at hxW hsW
 have hbxH:=hid hbx
 have hsWH:=hid hsW
 clear hW q0a q2a hsW hbx
 go_region_held3 (fun w'=>w'.cell? ⟨C,0,none⟩=some (.string ct)∧w'.cell? ⟨C,2,none⟩=some (.int .i64 (k:Nat)))
  ((refine ⟨?_,?_⟩ <;> (first|assumption|with_reducible exact k0|with_reducible exact k2)))
  ((go_at_call 237;refine (hAd.out W.drew).mono ?_;rintro e w2 ⟨r,rfl,hr,hb2⟩;have j0:=(hb2.cell (p:=⟨C,0,none⟩) hlW).trans k0;have j2:=(hb2.cell (p:=⟨C,2,none⟩) hlW).trans k2))
 have hb12:Below w1.heap.size w1 w2:=hbW.out.trans ((Below.refl _ W).drew.trans hb2 |>.mono hbW.out.size)
 have hbx2:w2.heap[bx]?=some (.cells #[.pointer (some ⟨a.m,0,none⟩),.bool o.image,.bool false] 253 (0,0)):=(hb2.block bx (by show bx<W.heap.size;have:=hsWH.out;omega)).trans hxW
 have hrs:r.size=n:=by rw[← S.length_data,hr.out];exact hn
 have hrb:Hid (S.B t=r):=hid (by rw[← hr.out,S.zbq])
 have hSk:=hid (zo5 C ct f k (3+n) (P++a::M) os sa sc A w2 (hall.out.1.below hb12) hkn)
 rw[show ((3+n:Nat):Int)=3+(n:Int) by omega] at hSk
 have hx2:bx<w2.heap.size:=(Array.getElem?_eq_some_iff.1 hbx2).1
 have hnbx:bx ∉ C::blks (P++a::M):=fun hm=>by have:=hbm.out bx hm;have:=hbxH.out;omega
 have h12:=hid hb12
 clear hb2 hb12 k0 k2 j0 j2 hxW
 go_wp2_with fail
 refine hSk.out.mono ?_
 rintro e w3 ⟨m1,rfl,hm1,hC3,hf3⟩
 have hbx3:w3.heap[bx]?=some (.cells #[.pointer (some ⟨a.m,0,none⟩),.bool o.image,.bool false] 253 (0,0)):=(hf3.block bx hx2 hnbx).trans hbx2
 have y0:w3.cell? ⟨bx,0,none⟩=some (.pointer (some ⟨a.m,0,none⟩)):=za0 hbx3 0 _ rfl
 obtain ⟨Q,hQ⟩:∃ Q,Q=M++zcp ct f k m1:=⟨_,rfl⟩
 have hms:(P++a::M)++zcp ct f k m1=P++a::Q:=by rw[hQ];simp
 rw[hms] at hC3
 have hnb3:bx ∉ C::blks (P++a::Q):=fun hm=>by
  rw[← hms,zab] at hm
  rcases List.mem_cons.1 hm with hm|hm
  ·exact hnbx (by rw[hm];exact List.mem_cons_self)
  ·rcases List.mem_append.1 hm with hm|hm
   ·exact hnbx (List.mem_cons_of_mem _ hm)
   ·unfold zcp at hm;split at hm <;> simp[blks] at hm;omega
 have hx3:bx<w3.heap.size:=(Array.getElem?_eq_some_iff.1 hbx3).1
 have hlt3:Hid (∀ x∈C::blks (P++a::Q),x<w3.heap.size):=hid (fun x hx=>by
  rcases List.mem_cons.1 hx with rfl|hx
  ·exact hC3.lt
  ·exact hC3.ch.mlt x hx)
 obtain ⟨W3,hW3⟩:∃ W3,W3=w3.alloc (.cells #[.int .i64 0,.string ⟨#[]⟩,.string ⟨#[]⟩,.pointer none,.pointer none,.int .i64 0,.bool false,.bool false] 177):=⟨_,rfl⟩
 have hn3:w3.heap.size ∉ C::blks (P++a::Q):=fun hm=>by have:=hlt3.out _ hm;omega
 have hz3:Hid (W3.heap[w3.heap.size]?=some (.cells #[.int .i64 0,.string ⟨#[]⟩,.string ⟨#[]⟩,.pointer none,.pointer none,.int .i64 0,.bool false,.bool false] 177 (0,0))∧W3.heap.size=w3.heap.size+1∧∀ x,x<w3.heap.size→W3.heap[x]?=w3.heap[x]?):=hid (by rw[hW3];exact ⟨za1 _ _,by simp,fun x hx=>Below.heap_alloc _ _ _ hx⟩)
 have hTk0:Hid (Calls Tryz.prog 238 #[.pointer (some ⟨C,3,none⟩),.pointer (some ⟨a.m,0,none⟩),.pointer none] w3.drew fun e w'=>e = .returned (.agg #[.pointer (hd Q none),.pointer (lst Q none)])∧Hid (Ch w' C 3 168 (zbo ct (k+(3+n)) (k+(3+n)) (.slice sa os.length sc)) (P++[a])∧Seg w' none Q none∧Fr (C::blks (P++a::Q)) w3 w')∧w'.cell? ⟨bx,0,none⟩=some (.pointer (some ⟨a.m,0,none⟩))∧¬ w'.heap.size=bx):=hid ((zot C 168 (zbo ct (k+(3+n)) (k+(3+n)) (.slice sa os.length sc)) P Q a w3.drew (hC3.ch.move (fun _ _=>rfl))).mono (fun e w' ⟨h1,h2,h3,h4⟩=>⟨h1,hid ⟨h2,h3,((Fr.refl _ w3).drew).trans h4 (fun x hx=>.inl hx)⟩,(zff (h4.block bx hx3 hnb3) 0).trans y0,by have h5:w3.heap.size≤w'.heap.size:=h4.size;omega⟩))
 have hTk1:Hid (Calls Tryz.prog 238 #[.pointer (some ⟨C,3,none⟩),.pointer (some ⟨a.m,0,none⟩),.pointer none] W3.drew fun e w'=>e = .returned (.agg #[.pointer (hd Q none),.pointer (lst Q none)])∧Hid (Ch w' C 3 168 (zbo ct (k+(3+n)) (k+(3+n)) (.slice sa os.length sc)) (P++[a])∧Seg w' none Q none∧Fr (C::blks (P++a::Q)) W3 w'∧w'.heap[w3.heap.size]?=some (.cells [.int .i64 0,.string ⟨#[]⟩,.string ⟨#[]⟩,.pointer none,.pointer none,.int .i64 0,.bool false,.bool false].toArray 177 (0,0)))∧w'.cell? ⟨bx,0,none⟩=some (.pointer (some ⟨a.m,0,none⟩))∧(∀ i u,[(.int .i64 0:Value),.string ⟨#[]⟩,.string ⟨#[]⟩,.pointer none,.pointer none,.int .i64 0,.bool false,.bool false][i]?=some u→w'.cell? ⟨w3.heap.size,i,none⟩=some u)∧∀ i,w'.frozen? ⟨w3.heap.size,i,none⟩=false):=hid ((zot C 168 (zbo ct (k+(3+n)) (k+(3+n)) (.slice sa os.length sc)) P Q a W3.drew (hC3.ch.move (fun x hx=>hz3.out.2.2 x (hlt3.out x hx)))).mono (fun e w' ⟨h1,h2,h3,h4⟩=>by
  have hsz:=hz3.out.2.1
  have hb:=(h4.block w3.heap.size (by show w3.heap.size<W3.heap.size;omega) hn3).trans hz3.out.1
  exact ⟨h1,hid ⟨h2,h3,((Fr.refl _ W3).drew).trans h4 (fun x hx=>.inl hx),hb⟩,(zff ((h4.block bx (by show bx<W3.heap.size;omega) hnb3).trans (hz3.out.2.2 bx hx3)) 0).trans y0,fun i u hu=>za0 hb i u (by simpa using hu),za7 hb⟩))
 rw[hW3] at hTk1
 have h3:=hid (And.intro hC3 hf3)
 have hbx3H:=hid hbx3
 have hQH:=hid hQ
 have hn0:¬ w3.heap.size=bx:=by omega
 have hn0':¬ bx=w3.heap.size:=by omega
 clear hC3 hf3 hbx3 hQ hms hbx2
 go_wp2_with fail
 have yd:w3.drew.cell? ⟨bx,0,none⟩=some (.pointer (some ⟨a.m,0,none⟩)):=y0
 go_region_held3 (fun w'=>w'.cell? ⟨bx,0,none⟩=some (.pointer (some ⟨a.m,0,none⟩)))
  ((first|with_reducible assumption|go_keep))
  (first|(go_at_call 238;with_reducible refine hTk0.out.mono ?_;rintro e w4 ⟨rfl,h4,j0,hn1⟩)|(go_at_call 238;with_reducible refine hTk1.out.mono ?_;rintro e w4 ⟨rfl,h4,j0,jc,jf⟩;have z0:=jc 0 _ rfl;have z1:=jc 1 _ rfl;have z2:=jc 2 _ rfl;have z3:=jc 3 _ rfl;have z4:=jc 4 _ rfl;have z5:=jc 5 _ rfl;have z6:=jc 6 _ rfl;have z7:=jc 7 _ rfl;clear jc))
 ·obtain ⟨W4,hW4⟩:∃ W4,W4=w4.alloc (.cells #[.int .i64 13,.string r,.string ⟨#[]⟩,.pointer (hd Q none),.pointer (lst Q none),.int .i64 0,.bool false,.bool false] 177):=⟨_,rfl⟩
  obtain ⟨b,hb⟩:∃ b,b=w4.heap.size:=⟨_,rfl⟩
  have hz4:w3.heap.size≤w4.heap.size:=h4.out.2.2.size
  have hf4:Fr (C::blks (P++a::Q)) w3 W4:=by rw[hW4];exact h4.out.2.2.alloc _
  have hsame:∀ x,x<w4.heap.size→W4.heap[x]?=w4.heap[x]?:=fun x hx=>by rw[hW4];exact Below.heap_alloc _ _ _ hx
  have hMd:zw8 C b (k+(3+n)) ct r P Q a os sa sc A W4:=zvb h3.out.1 hup.out (h4.out.1.move (fun x hx=>hsame x (by rcases List.mem_cons.1 hx with rfl|hx;exact h4.out.1.lt;exact h4.out.1.mlt x hx))) (h4.out.2.1.move (fun e he=>hsame e.m (h4.out.2.1.lt e he))) hf4 (by rw[hW4,hb];exact za1 _ _) (by omega)
  have hbz:w3.heap.size≤b:=by omega
  rw[← hW4,← hb]
  have hMH:=hid (And.intro hMd hf4)
  clear hW4 hb hMd hf4 hsame h4 j0 hn1 hz4
  have hSe:=hid (zj5 b 3 177 (madeCells 13 r) Q A W4 hMH.out.1.ch hMH.out.1.kids hMH.out.1.dead hMH.out.1.txt hMH.out.1.runs)
  have hx4:bx<W4.heap.size:=Nat.lt_of_lt_of_le hx3 hMH.out.2.size
  have hbx4:Hid (W4.heap[bx]?=some (.cells #[.pointer (some ⟨a.m,0,none⟩),.bool o.image,.bool false] 253 (0,0))):=hid ((hMH.out.2.block bx hx3 hnb3).trans hbx3H.out)
  have hnb4:bx ∉ b::blks Q:=fun hm=>by
   rcases List.mem_cons.1 hm with hm|hm
   ·omega
   ·exact hnb3 (by rw[show P++a::Q=(P++[a])++Q by simp,zab];exact List.mem_cons_of_mem _ (List.mem_append_right _ hm))
  go_wp2_with fail
  refine hSe.out.mono ?_
  rintro e w5 ⟨l',A5,rfl,hS5⟩
  have hbx5:=(hS5.fr.block bx hx4 hnb4).trans hbx4.out
  have u0:w5.cell? ⟨bx,0,none⟩=some (.pointer (some ⟨a.m,0,none⟩)):=za0 hbx5 0 _ rfl
  have u1:w5.cell? ⟨bx,1,none⟩=some (.bool o.image):=za0 hbx5 1 _ rfl
  have hC5:=hid (hMH.out.1.cut.frame hS5.fr hMH.out.1.sep)
  have hb5:w5.heap[b]?=some (.cells [.int .i64 13,.string r,.string ⟨#[]⟩,.pointer (hd l' none),.pointer (lst l' none),.int .i64 0,.bool false,.bool false].toArray 177 (0,0)):=hS5.ch.hdr.1
  have hS5H:=hid hS5
  have hBel:Hid (Below C w w5):=hid (by
   have hB1:Below C w w1:=hall.out.2.below (Nat.le_of_lt hcl) (by simp)
   have hB2:Below C w1 w2:=h12.out.mono (Nat.le_of_lt hl1)
   have hB3:Below C w2 w3:=(hall.out.1.below h12.out).zez h3.out.2
   have hB4:Below C w3 W4:=h3.out.1.zez hMH.out.2
   have hB5:Below C W4 w5:=hS5.fr.below (by have:=hMH.out.1.cut.lt;omega) (fun x hx=>by
    have h3l:=h3.out.1.lt
    rcases List.mem_cons.1 hx with hx|hx
    ·omega
    ·exact Nat.le_of_lt (h3.out.1.above x (by rw[show P++a::Q=(P++[a])++Q by simp,zab];exact List.mem_append_right _ hx)))
   exact (((hB1.trans hB2).trans hB3).trans hB4).trans hB5)
  have ha5:=((seg_append _ _ _ _ _).1 hC5.out.ch.seg).2.cells
  clear hS5 hbx5
  by_cases hoi:o.image=true
  ·rw[hoi] at u1
   have v0:w5.cell? ⟨b,0,none⟩=some (.int .i64 13):=za0 hb5 0 _ rfl
   have v1:w5.cell? ⟨b,1,none⟩=some (.string r):=za0 hb5 1 _ rfl
   have v2:w5.cell? ⟨b,2,none⟩=some (.string ⟨#[]⟩):=za0 hb5 2 _ rfl
   have v3:w5.cell? ⟨b,3,none⟩=some (.pointer (hd l' none)):=za0 hb5 3 _ rfl
   have v4:w5.cell? ⟨b,4,none⟩=some (.pointer (lst l' none)):=za0 hb5 4 _ rfl
   have v5:w5.cell? ⟨b,5,none⟩=some (.int .i64 0):=za0 hb5 5 _ rfl
   have v6:w5.cell? ⟨b,6,none⟩=some (.bool false):=za0 hb5 6 _ rfl
   have v7:w5.cell? ⟨b,7,none⟩=some (.bool false):=za0 hb5 7 _ rfl
   generalize hkf:hd l' none=kf at v3
   generalize hkl:lst l' none=kl at v4
   obtain ⟨e0,g0⟩:∃ e,w5.cell? ⟨a.m,0,none⟩=some e:=⟨_,za0 ha5 0 _ rfl⟩
   obtain ⟨e1,g1⟩:∃ e,w5.cell? ⟨a.m,1,none⟩=some e:=⟨_,za0 ha5 1 _ rfl⟩
   obtain ⟨e2,g2⟩:∃ e,w5.cell? ⟨a.m,2,none⟩=some e:=⟨_,za0 ha5 2 _ rfl⟩
   obtain ⟨e3,g3⟩:∃ e,w5.cell? ⟨a.m,3,none⟩=some e:=⟨_,za0 ha5 3 _ rfl⟩
   obtain ⟨e4,g4⟩:∃ e,w5.cell? ⟨a.m,4,none⟩=some e:=⟨_,za0 ha5 4 _ rfl⟩
   obtain ⟨e5,g5⟩:∃ e,w5.cell? ⟨a.m,5,none⟩=some e:=⟨_,za0 ha5 5 _ rfl⟩
   obtain ⟨e6,g6⟩:∃ e,w5.cell? ⟨a.m,6,none⟩=some e:=⟨_,za0 ha5 6 _ rfl⟩
   obtain ⟨e7,g7⟩:∃ e,w5.cell? ⟨a.m,7,none⟩=some e:=⟨_,za0 ha5 7 _ rfl⟩
   have gf:=za7 ha5
   have hb5H:=hid hb5
   have ha5H:=hid ha5
   clear hb5 ha5 hga hz hn hk hkn hoj hol hok hsm hdd hI0 hI1 hI2 hI3 hI4 hI5 hn0 hn0' hn3 hx3 hnb3 hx4 hnb4 hrs hnbx hx2 hm1 y0 yd hs01 hl1 hlW
   have hkfH:=hid hkf
   have hklH:=hid hkl
   clear hkf hkl
   go_wp2
   refine hRH.out _ _ ?_
   have hrb':=hrb.out
   have haC:C≤a.m:=Nat.le_of_lt (hC5.out.above a.m (by simp[blks]))
   refine ⟨m1,(fun x=>A x∨A5 x∨x∈blks l'),hd l' none,lst l' none,rfl,?_,(((((((hBel.out.setCell haC _).setCell haC _).setCell haC _).setCell haC _).setCell haC _).setCell haC _).setCell haC _).setCell haC _⟩
   rw[hoi]
   have hfin:=zg1 (kd:=13) (t:=t) hMH.out.1 hS5H.out hC5.out hup.out (Nat.le_refl _) (fun _ _=>rfl) (((((((((Fr.refl [a.m] w5).setCell ⟨a.m,0,none⟩ (.inl (by simp)) (.int .i64 13)).setCell ⟨a.m,1,none⟩ (.inl (by simp)) (.string r)).setCell ⟨a.m,2,none⟩ (.inl (by simp)) (.string ⟨#[]⟩)).setCell ⟨a.m,3,none⟩ (.inl (by simp)) (.pointer kf)).setCell ⟨a.m,4,none⟩ (.inl (by simp)) (.pointer kl)).setCell ⟨a.m,5,none⟩ (.inl (by simp)) (.int .i64 0)).setCell ⟨a.m,6,none⟩ (.inl (by simp)) (.bool false)).setCell ⟨a.m,7,none⟩ (.inl (by simp)) (.bool false)) (by
    have hb:=za3 (za3 (za3 (za3 (za3 (za3 (za3 (za3 ha5H.out 0 (.int .i64 13)) 1 (.string r)) 2 (.string ⟨#[]⟩)) 3 (.pointer kf)) 4 (.pointer kl)) 5 (.int .i64 0)) 6 (.bool false)) 7 (.bool false)
    rw[← hrb',← hkfH.out,← hklH.out] at hb ⊢
    exact hb)
   rw[hQH.out] at hfin
   exact hfin
  ·have hoi':o.image=false:=by simpa using hoi
   rw[hoi'] at u1
   have v0:w5.cell? ⟨b,0,none⟩=some (.int .i64 13):=za0 hb5 0 _ rfl
   have vf:=za7 hb5
   obtain ⟨w5',hw5'⟩:∃ w5',w5'=w5.setCell ⟨b,0,none⟩ (.int .i64 12):=⟨_,rfl⟩
   have hfb:Fr [b] w5 w5':=by rw[hw5'];exact (Fr.refl _ _).setCell _ (.inl (by simp)) _
   have hb5':w5'.heap[b]?=some (.cells [.int .i64 12,.string r,.string ⟨#[]⟩,.pointer (hd l' none),.pointer (lst l' none),.int .i64 0,.bool false,.bool false].toArray 177 (0,0)):=by rw[hw5'];exact za3 hb5 0 _
   have hsb:=hMH.out.1.sep b List.mem_cons_self
   have hC5':=hC5.out.frame hfb (fun x hx=>by simp at hx;subst hx;exact hsb)
   have hEa:=hid (zsk C ct (k+(3+n)) (k+(3+n)) (P++[a]) os sa sc A w5' hC5' hol)
   have hown:∀ x,x∈ownL sa→(Value.slice sa os.length sc).ownBlock=some x:=fun x hx=>by cases sa <;> simp[ownL] at hx;subst hx;rfl
   have hbl5:b<w5.heap.size:=(Array.getElem?_eq_some_iff.1 hb5).1
   have hz5:W4.heap.size≤w5.heap.size:=hS5H.out.fr.size
   have hbx5':w5'.heap[bx]?=some (.cells #[.pointer (some ⟨a.m,0,none⟩),.bool o.image,.bool false] 253 (0,0)):=by
    rw[hfb.block bx (by omega) (by simp;omega),hS5H.out.fr.block bx hx4 hnb4];exact hbx4.out
   have hbxo:bx ∉ ownL sa:=fun hm=>by
    have:=((hall.out.1.own.lt bx (hown bx hm))).2;have:=hbxH.out;omega
   have hbo:b ∉ ownL sa:=fun hm=>hsb.2.2 (hown b hm).symm
   have hrest:=hid (And.intro hfb (And.intro hb5' (And.intro hbx5' (And.intro hbxo (And.intro hbo (And.intro hbl5 hx4))))))
   have hupH:=hup
   have hw5H:=hid hw5'
   have hbzH:=hid hbz
   clear hb5 ha5 hga hz hn hk hkn hoj hol hok hsm hdd hI0 hI1 hI2 hI3 hI4 hI5 hn0 hn0' hn3 hx3 hnb3 hx4 hnb4 hrs hnbx hx2 hm1 y0 yd hs01 hl1 hlW hfb hb5' hsb hC5' hown hbl5 hbx5' hbxo hbo hz5 hbz
   go_wp2_with fail
   rw[← hw5H.out]
   refine hEa.out.mono ?_
   rintro e w6 ⟨rfl,hC6,hf6⟩
   obtain ⟨hfb,hb5',hbx5',hbxo,hbo,hbl5,hx4⟩:=hrest.out
   have hz5':w5.heap.size≤w5'.heap.size:=hfb.size
   have hb6:=(hf6.block b (by omega) hbo).trans hb5'
   have hbx6:=(hf6.block bx (Array.getElem?_eq_some_iff.1 hbx5').1 hbxo).trans hbx5'
   have ha6:=((seg_append _ _ _ _ _).1 hC6.ch.seg).2.cells
   have u0':w6.cell? ⟨bx,0,none⟩=some (.pointer (some ⟨a.m,0,none⟩)):=za0 hbx6 0 _ rfl
   have y0:w6.cell? ⟨b,0,none⟩=some (.int .i64 12):=za0 hb6 0 _ rfl
   have y1:w6.cell? ⟨b,1,none⟩=some (.string r):=za0 hb6 1 _ rfl
   have y2:w6.cell? ⟨b,2,none⟩=some (.string ⟨#[]⟩):=za0 hb6 2 _ rfl
   have y3:w6.cell? ⟨b,3,none⟩=some (.pointer (hd l' none)):=za0 hb6 3 _ rfl
   have y4:w6.cell? ⟨b,4,none⟩=some (.pointer (lst l' none)):=za0 hb6 4 _ rfl
   have y5:w6.cell? ⟨b,5,none⟩=some (.int .i64 0):=za0 hb6 5 _ rfl
   have y6:w6.cell? ⟨b,6,none⟩=some (.bool false):=za0 hb6 6 _ rfl
   have y7:w6.cell? ⟨b,7,none⟩=some (.bool false):=za0 hb6 7 _ rfl
   generalize hkf:hd l' none=kf at y3
   generalize hkl:lst l' none=kl at y4
   obtain ⟨e0,g0⟩:∃ e,w6.cell? ⟨a.m,0,none⟩=some e:=⟨_,za0 ha6 0 _ rfl⟩
   obtain ⟨e1,g1⟩:∃ e,w6.cell? ⟨a.m,1,none⟩=some e:=⟨_,za0 ha6 1 _ rfl⟩
   obtain ⟨e2,g2⟩:∃ e,w6.cell? ⟨a.m,2,none⟩=some e:=⟨_,za0 ha6 2 _ rfl⟩
   obtain ⟨e3,g3⟩:∃ e,w6.cell? ⟨a.m,3,none⟩=some e:=⟨_,za0 ha6 3 _ rfl⟩
   obtain ⟨e4,g4⟩:∃ e,w6.cell? ⟨a.m,4,none⟩=some e:=⟨_,za0 ha6 4 _ rfl⟩
   obtain ⟨e5,g5⟩:∃ e,w6.cell? ⟨a.m,5,none⟩=some e:=⟨_,za0 ha6 5 _ rfl⟩
   obtain ⟨e6,g6⟩:∃ e,w6.cell? ⟨a.m,6,none⟩=some e:=⟨_,za0 ha6 6 _ rfl⟩
   obtain ⟨e7,g7⟩:∃ e,w6.cell? ⟨a.m,7,none⟩=some e:=⟨_,za0 ha6 7 _ rfl⟩
   have gf:=za7 ha6
   have hkfH:=hid hkf
   have hklH:=hid hkl
   have h6:=hid (And.intro hC6 hf6)
   have ha6H:=hid ha6
   clear hkf hkl hC6 hf6 hb6 hbx6 ha6 hfb hb5' hbx5' hbxo hbo hbl5 hx4 hz5' u0 u1 v0 vf
   go_wp2
   refine hRH.out _ _ ?_
   have hrb':=hrb.out
   obtain ⟨hfb,_,_,_,_,hbl5,_⟩:=hrest.out
   have haC:C≤a.m:=Nat.le_of_lt (hC5.out.above a.m (by simp[blks]))
   have hbel6:Below C w w6:=(hBel.out.trans (hfb.below (by have:=hC5.out.lt;omega) (fun x hx=>by simp at hx;subst hx;have:=h3.out.1.lt;have:=hbzH.out;omega))).trans (h6.out.2.below (by have:=h6.out.1.lt;have:=hC5.out.lt;have:=hfb.size;omega) (fun x hx=>by have:=(h6.out.1.own.lt x (zou hx)).1;omega))
   refine ⟨m1,(fun x=>A x∨A5 x∨x∈blks l'),hd l' none,lst l' none,rfl,?_,(((((((hbel6.setCell haC _).setCell haC _).setCell haC _).setCell haC _).setCell haC _).setCell haC _).setCell haC _).setCell haC _⟩
   rw[hoi']
   have hfin:=zg1 (kd:=12) (t:=t) hMH.out.1 hS5H.out h6.out.1 (fun x hx=>by obtain ⟨y,hy,rfl⟩:=List.mem_map.1 hx;exact hup.out y hy) (Nat.le_trans hfb.size h6.out.2.size) (zq3 hMH.out.1 hS5H.out hfb h6.out.2) (((((((((Fr.refl [a.m] w6).setCell ⟨a.m,0,none⟩ (.inl (by simp)) (.int .i64 12)).setCell ⟨a.m,1,none⟩ (.inl (by simp)) (.string r)).setCell ⟨a.m,2,none⟩ (.inl (by simp)) (.string ⟨#[]⟩)).setCell ⟨a.m,3,none⟩ (.inl (by simp)) (.pointer kf)).setCell ⟨a.m,4,none⟩ (.inl (by simp)) (.pointer kl)).setCell ⟨a.m,5,none⟩ (.inl (by simp)) (.int .i64 0)).setCell ⟨a.m,6,none⟩ (.inl (by simp)) (.bool false)).setCell ⟨a.m,7,none⟩ (.inl (by simp)) (.bool false)) (by
    have hb:=za3 (za3 (za3 (za3 (za3 (za3 (za3 (za3 ha6H.out 0 (.int .i64 12)) 1 (.string r)) 2 (.string ⟨#[]⟩)) 3 (.pointer kf)) 4 (.pointer kl)) 5 (.int .i64 0)) 6 (.bool false)) 7 (.bool false)
    rw[← hrb',← hkfH.out,← hklH.out] at hb ⊢
    exact hb)
   rw[hQH.out] at hfin
   exact hfin
 ·obtain ⟨W4,hW4⟩:∃ W4,W4=((((((((w4.setCell ⟨w3.heap.size,0,none⟩ (.int .i64 13)).setCell ⟨w3.heap.size,1,none⟩ (.string r)).setCell ⟨w3.heap.size,2,none⟩ (.string ⟨#[]⟩)).setCell ⟨w3.heap.size,3,none⟩ (.pointer (hd Q none))).setCell ⟨w3.heap.size,4,none⟩ (.pointer (lst Q none))).setCell ⟨w3.heap.size,5,none⟩ (.int .i64 0)).setCell ⟨w3.heap.size,6,none⟩ (.bool false)).setCell ⟨w3.heap.size,7,none⟩ (.bool false)):=⟨_,rfl⟩
  obtain ⟨b,hb⟩:∃ b,b=w3.heap.size:=⟨_,rfl⟩
  have hf34:Fr (C::blks (P++a::Q)) w3 w4:=((Fr.refl _ w3).alloc _).trans h4.out.2.2.1 (fun x hx=>.inl hx)
  have hf4:Fr (C::blks (P++a::Q)) w3 W4:=by rw[hW4];exact (((((((hf34.setCell _ (.inr (Nat.le_refl _)) _).setCell _ (.inr (Nat.le_refl _)) _).setCell _ (.inr (Nat.le_refl _)) _).setCell _ (.inr (Nat.le_refl _)) _).setCell _ (.inr (Nat.le_refl _)) _).setCell _ (.inr (Nat.le_refl _)) _).setCell _ (.inr (Nat.le_refl _)) _).setCell _ (.inr (Nat.le_refl _)) _
  have hsame:∀ x,x<w3.heap.size→W4.heap[x]?=w4.heap[x]?:=fun x hx=>by
   have hne:x≠w3.heap.size:=by omega
   rw[hW4,Below.heap_setCell _ _ _ _ hne,Below.heap_setCell _ _ _ _ hne,Below.heap_setCell _ _ _ _ hne,Below.heap_setCell _ _ _ _ hne,Below.heap_setCell _ _ _ _ hne,Below.heap_setCell _ _ _ _ hne,Below.heap_setCell _ _ _ _ hne,Below.heap_setCell _ _ _ _ hne]
  have hsub:∀ x∈C::blks (P++[a]),x<w3.heap.size:=fun x hx=>hlt3.out x (by
   rcases List.mem_cons.1 hx with rfl|hx
   ·exact List.mem_cons_self
   ·rw[show P++a::Q=(P++[a])++Q by simp,zab];exact List.mem_cons_of_mem _ (List.mem_append_left _ hx))
  have hMd:zw8 C b (k+(3+n)) ct r P Q a os sa sc A W4:=zvb h3.out.1 hup.out (h4.out.1.move (fun x hx=>hsame x (hsub x hx))) (h4.out.2.1.move (fun e he=>hsame e.m (hlt3.out e.m (by rw[show P++a::Q=(P++[a])++Q by simp,zab];exact List.mem_cons_of_mem _ (List.mem_append_right _ (List.mem_map_of_mem he)))))) hf4 (by
   rw[hW4,hb]
   exact za3 (za3 (za3 (za3 (za3 (za3 (za3 (za3 h4.out.2.2.2 0 _) 1 _) 2 _) 3 _) 4 _) 5 _) 6 _) 7 _) (by omega)
  have hbz:w3.heap.size≤b:=by omega
  rw[← hW4,← hb]
  have hMH:=hid (And.intro hMd hf4)
  clear hW4 hMd hf4 hsame h4 j0 hf34 hsub z0 z1 z2 z3 z4 z5 z6 z7 jf hb
  have hSe:=hid (zj5 b 3 177 (madeCells 13 r) Q A W4 hMH.out.1.ch hMH.out.1.kids hMH.out.1.dead hMH.out.1.txt hMH.out.1.runs)
  have hx4:bx<W4.heap.size:=Nat.lt_of_lt_of_le hx3 hMH.out.2.size
  have hbx4:Hid (W4.heap[bx]?=some (.cells #[.pointer (some ⟨a.m,0,none⟩),.bool o.image,.bool false] 253 (0,0))):=hid ((hMH.out.2.block bx hx3 hnb3).trans hbx3H.out)
  have hnb4:bx ∉ b::blks Q:=fun hm=>by
   rcases List.mem_cons.1 hm with hm|hm
   ·omega
   ·exact hnb3 (by rw[show P++a::Q=(P++[a])++Q by simp,zab];exact List.mem_cons_of_mem _ (List.mem_append_right _ hm))
  go_wp2_with fail
  refine hSe.out.mono ?_
  rintro e w5 ⟨l',A5,rfl,hS5⟩
  have hbx5:=(hS5.fr.block bx hx4 hnb4).trans hbx4.out
  have u0:w5.cell? ⟨bx,0,none⟩=some (.pointer (some ⟨a.m,0,none⟩)):=za0 hbx5 0 _ rfl
  have u1:w5.cell? ⟨bx,1,none⟩=some (.bool o.image):=za0 hbx5 1 _ rfl
  have hC5:=hid (hMH.out.1.cut.frame hS5.fr hMH.out.1.sep)
  have hb5:w5.heap[b]?=some (.cells [.int .i64 13,.string r,.string ⟨#[]⟩,.pointer (hd l' none),.pointer (lst l' none),.int .i64 0,.bool false,.bool false].toArray 177 (0,0)):=hS5.ch.hdr.1
  have hS5H:=hid hS5
  have hBel:Hid (Below C w w5):=hid (by
   have hB1:Below C w w1:=hall.out.2.below (Nat.le_of_lt hcl) (by simp)
   have hB2:Below C w1 w2:=h12.out.mono (Nat.le_of_lt hl1)
   have hB3:Below C w2 w3:=(hall.out.1.below h12.out).zez h3.out.2
   have hB4:Below C w3 W4:=h3.out.1.zez hMH.out.2
   have hB5:Below C W4 w5:=hS5.fr.below (by have:=hMH.out.1.cut.lt;omega) (fun x hx=>by
    have h3l:=h3.out.1.lt
    rcases List.mem_cons.1 hx with hx|hx
    ·omega
    ·exact Nat.le_of_lt (h3.out.1.above x (by rw[show P++a::Q=(P++[a])++Q by simp,zab];exact List.mem_append_right _ hx)))
   exact (((hB1.trans hB2).trans hB3).trans hB4).trans hB5)
  have ha5:=((seg_append _ _ _ _ _).1 hC5.out.ch.seg).2.cells
  clear hS5 hbx5
  by_cases hoi:o.image=true
  ·rw[hoi] at u1
   have v0:w5.cell? ⟨b,0,none⟩=some (.int .i64 13):=za0 hb5 0 _ rfl
   have v1:w5.cell? ⟨b,1,none⟩=some (.string r):=za0 hb5 1 _ rfl
   have v2:w5.cell? ⟨b,2,none⟩=some (.string ⟨#[]⟩):=za0 hb5 2 _ rfl
   have v3:w5.cell? ⟨b,3,none⟩=some (.pointer (hd l' none)):=za0 hb5 3 _ rfl
   have v4:w5.cell? ⟨b,4,none⟩=some (.pointer (lst l' none)):=za0 hb5 4 _ rfl
   have v5:w5.cell? ⟨b,5,none⟩=some (.int .i64 0):=za0 hb5 5 _ rfl
   have v6:w5.cell? ⟨b,6,none⟩=some (.bool false):=za0 hb5 6 _ rfl
   have v7:w5.cell? ⟨b,7,none⟩=some (.bool false):=za0 hb5 7 _ rfl
   generalize hkf:hd l' none=kf at v3
   generalize hkl:lst l' none=kl at v4
   obtain ⟨e0,g0⟩:∃ e,w5.cell? ⟨a.m,0,none⟩=some e:=⟨_,za0 ha5 0 _ rfl⟩
   obtain ⟨e1,g1⟩:∃ e,w5.cell? ⟨a.m,1,none⟩=some e:=⟨_,za0 ha5 1 _ rfl⟩
   obtain ⟨e2,g2⟩:∃ e,w5.cell? ⟨a.m,2,none⟩=some e:=⟨_,za0 ha5 2 _ rfl⟩
   obtain ⟨e3,g3⟩:∃ e,w5.cell? ⟨a.m,3,none⟩=some e:=⟨_,za0 ha5 3 _ rfl⟩
   obtain ⟨e4,g4⟩:∃ e,w5.cell? ⟨a.m,4,none⟩=some e:=⟨_,za0 ha5 4 _ rfl⟩
   obtain ⟨e5,g5⟩:∃ e,w5.cell? ⟨a.m,5,none⟩=some e:=⟨_,za0 ha5 5 _ rfl⟩
   obtain ⟨e6,g6⟩:∃ e,w5.cell? ⟨a.m,6,none⟩=some e:=⟨_,za0 ha5 6 _ rfl⟩
   obtain ⟨e7,g7⟩:∃ e,w5.cell? ⟨a.m,7,none⟩=some e:=⟨_,za0 ha5 7 _ rfl⟩
   have gf:=za7 ha5
   have hb5H:=hid hb5
   have ha5H:=hid ha5
   clear hb5 ha5 hga hz hn hk hkn hoj hol hok hsm hdd hI0 hI1 hI2 hI3 hI4 hI5 hn0 hn0' hn3 hx3 hnb3 hx4 hnb4 hrs hnbx hx2 hm1 y0 yd hs01 hl1 hlW
   have hkfH:=hid hkf
   have hklH:=hid hkl
   clear hkf hkl
   go_wp2
   refine hRH.out _ _ ?_
   have hrb':=hrb.out
   have haC:C≤a.m:=Nat.le_of_lt (hC5.out.above a.m (by simp[blks]))
   refine ⟨m1,(fun x=>A x∨A5 x∨x∈blks l'),hd l' none,lst l' none,rfl,?_,(((((((hBel.out.setCell haC _).setCell haC _).setCell haC _).setCell haC _).setCell haC _).setCell haC _).setCell haC _).setCell haC _⟩
   rw[hoi]
   have hfin:=zg1 (kd:=13) (t:=t) hMH.out.1 hS5H.out hC5.out hup.out (Nat.le_refl _) (fun _ _=>rfl) (((((((((Fr.refl [a.m] w5).setCell ⟨a.m,0,none⟩ (.inl (by simp)) (.int .i64 13)).setCell ⟨a.m,1,none⟩ (.inl (by simp)) (.string r)).setCell ⟨a.m,2,none⟩ (.inl (by simp)) (.string ⟨#[]⟩)).setCell ⟨a.m,3,none⟩ (.inl (by simp)) (.pointer kf)).setCell ⟨a.m,4,none⟩ (.inl (by simp)) (.pointer kl)).setCell ⟨a.m,5,none⟩ (.inl (by simp)) (.int .i64 0)).setCell ⟨a.m,6,none⟩ (.inl (by simp)) (.bool false)).setCell ⟨a.m,7,none⟩ (.inl (by simp)) (.bool false)) (by
    have hb:=za3 (za3 (za3 (za3 (za3 (za3 (za3 (za3 ha5H.out 0 (.int .i64 13)) 1 (.string r)) 2 (.string ⟨#[]⟩)) 3 (.pointer kf)) 4 (.pointer kl)) 5 (.int .i64 0)) 6 (.bool false)) 7 (.bool false)
    rw[← hrb',← hkfH.out,← hklH.out] at hb ⊢
    exact hb)
   rw[hQH.out] at hfin
   exact hfin
  ·have hoi':o.image=false:=by simpa using hoi
   rw[hoi'] at u1
   have v0:w5.cell? ⟨b,0,none⟩=some (.int .i64 13):=za0 hb5 0 _ rfl
   have vf:=za7 hb5
   obtain ⟨w5',hw5'⟩:∃ w5',w5'=w5.setCell ⟨b,0,none⟩ (.int .i64 12):=⟨_,rfl⟩
   have hfb:Fr [b] w5 w5':=by rw[hw5'];exact (Fr.refl _ _).setCell _ (.inl (by simp)) _
   have hb5':w5'.heap[b]?=some (.cells [.int .i64 12,.string r,.string ⟨#[]⟩,.pointer (hd l' none),.pointer (lst l' none),.int .i64 0,.bool false,.bool false].toArray 177 (0,0)):=by rw[hw5'];exact za3 hb5 0 _
   have hsb:=hMH.out.1.sep b List.mem_cons_self
   have hC5':=hC5.out.frame hfb (fun x hx=>by simp at hx;subst hx;exact hsb)
   have hEa:=hid (zsk C ct (k+(3+n)) (k+(3+n)) (P++[a]) os sa sc A w5' hC5' hol)
   have hown:∀ x,x∈ownL sa→(Value.slice sa os.length sc).ownBlock=some x:=fun x hx=>by cases sa <;> simp[ownL] at hx;subst hx;rfl
   have hbl5:b<w5.heap.size:=(Array.getElem?_eq_some_iff.1 hb5).1
   have hz5:W4.heap.size≤w5.heap.size:=hS5H.out.fr.size
   have hbx5':w5'.heap[bx]?=some (.cells #[.pointer (some ⟨a.m,0,none⟩),.bool o.image,.bool false] 253 (0,0)):=by
    rw[hfb.block bx (by omega) (by simp;omega),hS5H.out.fr.block bx hx4 hnb4];exact hbx4.out
   have hbxo:bx ∉ ownL sa:=fun hm=>by
    have:=((hall.out.1.own.lt bx (hown bx hm))).2;have:=hbxH.out;omega
   have hbo:b ∉ ownL sa:=fun hm=>hsb.2.2 (hown b hm).symm
   have hrest:=hid (And.intro hfb (And.intro hb5' (And.intro hbx5' (And.intro hbxo (And.intro hbo (And.intro hbl5 hx4))))))
   have hupH:=hup
   have hw5H:=hid hw5'
   have hbzH:=hid hbz
   clear hb5 ha5 hga hz hn hk hkn hoj hol hok hsm hdd hI0 hI1 hI2 hI3 hI4 hI5 hn0 hn0' hn3 hx3 hnb3 hx4 hnb4 hrs hnbx hx2 hm1 y0 yd hs01 hl1 hlW hfb hb5' hsb hC5' hown hbl5 hbx5' hbxo hbo hz5 hbz
   go_wp2_with fail
   rw[← hw5H.out]
   refine hEa.out.mono ?_
   rintro e w6 ⟨rfl,hC6,hf6⟩
   obtain ⟨hfb,hb5',hbx5',hbxo,hbo,hbl5,hx4⟩:=hrest.out
   have hz5':w5.heap.size≤w5'.heap.size:=hfb.size
   have hb6:=(hf6.block b (by omega) hbo).trans hb5'
   have hbx6:=(hf6.block bx (Array.getElem?_eq_some_iff.1 hbx5').1 hbxo).trans hbx5'
   have ha6:=((seg_append _ _ _ _ _).1 hC6.ch.seg).2.cells
   have u0':w6.cell? ⟨bx,0,none⟩=some (.pointer (some ⟨a.m,0,none⟩)):=za0 hbx6 0 _ rfl
   have y0:w6.cell? ⟨b,0,none⟩=some (.int .i64 12):=za0 hb6 0 _ rfl
   have y1:w6.cell? ⟨b,1,none⟩=some (.string r):=za0 hb6 1 _ rfl
   have y2:w6.cell? ⟨b,2,none⟩=some (.string ⟨#[]⟩):=za0 hb6 2 _ rfl
   have y3:w6.cell? ⟨b,3,none⟩=some (.pointer (hd l' none)):=za0 hb6 3 _ rfl
   have y4:w6.cell? ⟨b,4,none⟩=some (.pointer (lst l' none)):=za0 hb6 4 _ rfl
   have y5:w6.cell? ⟨b,5,none⟩=some (.int .i64 0):=za0 hb6 5 _ rfl
   have y6:w6.cell? ⟨b,6,none⟩=some (.bool false):=za0 hb6 6 _ rfl
   have y7:w6.cell? ⟨b,7,none⟩=some (.bool false):=za0 hb6 7 _ rfl
   generalize hkf:hd l' none=kf at y3
   generalize hkl:lst l' none=kl at y4
   obtain ⟨e0,g0⟩:∃ e,w6.cell? ⟨a.m,0,none⟩=some e:=⟨_,za0 ha6 0 _ rfl⟩
   obtain ⟨e1,g1⟩:∃ e,w6.cell? ⟨a.m,1,none⟩=some e:=⟨_,za0 ha6 1 _ rfl⟩
   obtain ⟨e2,g2⟩:∃ e,w6.cell? ⟨a.m,2,none⟩=some e:=⟨_,za0 ha6 2 _ rfl⟩
   obtain ⟨e3,g3⟩:∃ e,w6.cell? ⟨a.m,3,none⟩=some e:=⟨_,za0 ha6 3 _ rfl⟩
   obtain ⟨e4,g4⟩:∃ e,w6.cell? ⟨a.m,4,none⟩=some e:=⟨_,za0 ha6 4 _ rfl⟩
   obtain ⟨e5,g5⟩:∃ e,w6.cell? ⟨a.m,5,none⟩=some e:=⟨_,za0 ha6 5 _ rfl⟩
   obtain ⟨e6,g6⟩:∃ e,w6.cell? ⟨a.m,6,none⟩=some e:=⟨_,za0 ha6 6 _ rfl⟩
   obtain ⟨e7,g7⟩:∃ e,w6.cell? ⟨a.m,7,none⟩=some e:=⟨_,za0 ha6 7 _ rfl⟩
   have gf:=za7 ha6
   have hkfH:=hid hkf
   have hklH:=hid hkl
   have h6:=hid (And.intro hC6 hf6)
   have ha6H:=hid ha6
   clear hkf hkl hC6 hf6 hb6 hbx6 ha6 hfb hb5' hbx5' hbxo hbo hbl5 hx4 hz5' u0 u1 v0 vf
   go_wp2
   refine hRH.out _ _ ?_
   have hrb':=hrb.out
   obtain ⟨hfb,_,_,_,_,hbl5,_⟩:=hrest.out
   have haC:C≤a.m:=Nat.le_of_lt (hC5.out.above a.m (by simp[blks]))
   have hbel6:Below C w w6:=(hBel.out.trans (hfb.below (by have:=hC5.out.lt;omega) (fun x hx=>by simp at hx;subst hx;have:=h3.out.1.lt;have:=hbzH.out;omega))).trans (h6.out.2.below (by have:=h6.out.1.lt;have:=hC5.out.lt;have:=hfb.size;omega) (fun x hx=>by have:=(h6.out.1.own.lt x (zou hx)).1;omega))
   refine ⟨m1,(fun x=>A x∨A5 x∨x∈blks l'),hd l' none,lst l' none,rfl,?_,(((((((hbel6.setCell haC _).setCell haC _).setCell haC _).setCell haC _).setCell haC _).setCell haC _).setCell haC _).setCell haC _⟩
   rw[hoi']
   have hfin:=zg1 (kd:=12) (t:=t) hMH.out.1 hS5H.out h6.out.1 (fun x hx=>by obtain ⟨y,hy,rfl⟩:=List.mem_map.1 hx;exact hup.out y hy) (Nat.le_trans hfb.size h6.out.2.size) (zq3 hMH.out.1 hS5H.out hfb h6.out.2) (((((((((Fr.refl [a.m] w6).setCell ⟨a.m,0,none⟩ (.inl (by simp)) (.int .i64 12)).setCell ⟨a.m,1,none⟩ (.inl (by simp)) (.string r)).setCell ⟨a.m,2,none⟩ (.inl (by simp)) (.string ⟨#[]⟩)).setCell ⟨a.m,3,none⟩ (.inl (by simp)) (.pointer kf)).setCell ⟨a.m,4,none⟩ (.inl (by simp)) (.pointer kl)).setCell ⟨a.m,5,none⟩ (.inl (by simp)) (.int .i64 0)).setCell ⟨a.m,6,none⟩ (.inl (by simp)) (.bool false)).setCell ⟨a.m,7,none⟩ (.inl (by simp)) (.bool false)) (by
    have hb:=za3 (za3 (za3 (za3 (za3 (za3 (za3 (za3 ha6H.out 0 (.int .i64 12)) 1 (.string r)) 2 (.string ⟨#[]⟩)) 3 (.pointer kf)) 4 (.pointer kl)) 5 (.int .i64 0)) 6 (.bool false)) 7 (.bool false)
    rw[← hrb',← hkfH.out,← hklH.out] at hb ⊢
    exact hb)
   rw[hQH.out] at hfin
   exact hfin
end Go.Proofs.YtlojgpkajkedeaaGreatDoor
