import Derived.Test.YtlojgpkajkedeaaGreatDoorME7
namespace Go.Proofs.YtlojgpkajkedeaaGreatDoor
open Go.RowKit
theorem zxp (c o T:Nat) (cs:List Value) (P M Q:List Mem) (a b:Mem) (w:World) (h:Ch w c o T cs (P++a::(M++b::Q))) :
  Calls Tryz.prog 238 #[.pointer (some ⟨c,o,none⟩),.pointer (some ⟨a.m,0,none⟩),.pointer (some ⟨b.m,0,none⟩)] w fun e w'=>e = .returned (.agg #[.pointer (hd M none),.pointer (lst M none)])∧Ch w' c o T cs (P++a::b::Q)∧Seg w' none M none∧Fr (c::blks (P++a::(M++b::Q))) w w':=by
 cases M with
 | nil=>
  have hseg:=h.seg
  rw[seg_append] at hseg
  refine (zps c o a (b::Q) w (za0 hseg.2.cells 9 _ rfl) (h.mlt a.m (by simp[blks]))).mono ?_
  rintro e w' ⟨rfl,hb⟩
  refine ⟨rfl,h.move (fun x hx=>hb.block x (by rcases List.mem_cons.1 hx with rfl|hx;exact h.lt;exact h.mlt x hx)),trivial,Fr.zhq hb⟩
 | cons m0 M=>
  refine (zyq c o T cs P M Q a m0 b w h).mono ?_
  rintro e w' ⟨rfl,h1,h2,h3⟩
  exact ⟨rfl,h1,h2,h3⟩
theorem zhy {w:World} {A:Nat→Prop} {l:List Mem} {ah:Option Addr} (h:Seg w ah l none) (hA:∀ e∈l,A e.m) (hk:∀ e∈l,KRep w A e.kf e.p.kids):KRep w A (hd l none) (l.map Mem.p):=by
 induction l generalizing ah with
 | nil=>exact .nil
 | cons e r ih=>exact .cons e ah (hd r none) (r.map Mem.p) (hA e (by simp)) h.1 (hk e (by simp)) (ih h.2 (fun x hx=>hA x (by simp[hx])) (fun x hx=>hk x (by simp[hx])))
def Kd (w:World) (A:Nat→Prop) (l:List Mem):Prop:=∀ e∈l,KRep w A e.kf e.p.kids
def zcc (a b:Pt):Nat:=if 1<a.text.length∧1<b.text.length then 2 else 1
def zgh (z:Nat) (m:List Pt):Pt:=.mk (if z=2 then 15 else 14) [] [] (zfm m) 0 false false
theorem zz5 (t:List UInt8) (z:Nat):(S.B t).extract z (S.B t).size=S.B (t.drop z):=by
 rw[← S.zbq ((S.B t).extract z (S.B t).size),S.zbf,S.zcn]
structure zrv (c o T:Nat) (cs:List Value) (P M Q:List Mem) (a b:Mem) (z:Nat) (A:Nat→Prop) (w:World) (n:Mem) (w':World):Prop where
 ch:Ch w' c o T cs (P++a.za4 (a.p.text.drop z)::n::b.za4 (b.p.text.drop z)::Q)
 part:n.p=zgh z (M.map Mem.p)
 new:w.heap.size≤n.m
 kids:Kd w' (fun x=>A x∨x∈blks M) (P++a.za4 (a.p.text.drop z)::n::b.za4 (b.p.text.drop z)::Q)
 fr:Fr (c::blks (P++a::(M++b::Q))) w w'
theorem zn6 (e:Mem) (r:List Mem):blks (e::r)=e.m::blks r:=rfl
theorem outM {w:World} {c o T:Nat} {cs:List Value} {P M Q:List Mem} {a b:Mem} {ta tb:List UInt8} (h:Ch w c o T cs (P++a::(M++b::Q))) (x:Nat) (hx:x∈blks M):¬ x∈c::blks (P++a.za4 ta::b.za4 tb::Q):=fun hm=>by
 have hc:=h.out
 have hn:=h.nodup
 rw[zc8,zab,zn6] at hc hn
 have hm':x=c∨x∈blks P∨x=a.m∨x=b.m∨x∈blks Q:=by
  rcases List.mem_cons.1 hm with hm|hm
  ·exact .inl hm
  ·rw[zc8,zn6] at hm
   simp only[List.mem_append,List.mem_cons] at hm
   rcases hm with hm|hm|hm|hm
   ·exact .inr (.inl hm)
   ·exact .inr (.inr (.inl hm))
   ·exact .inr (.inr (.inr (.inl hm)))
   ·exact .inr (.inr (.inr (.inr hm)))
 have n1:=List.nodup_append.1 hn
 have n2:=List.nodup_cons.1 n1.2.1
 have n3:=List.nodup_append.1 n2.2
 rcases hm' with e|e|e|e|e
 ·exact hc (by rw[← e];simp[hx])
 ·exact n1.2.2 x e x (by simp[hx]) rfl
 ·exact n2.1 (by rw[← e];simp[hx])
 ·exact n3.2.2 x hx b.m (by simp) e
 ·exact n3.2.2 x hx x (by simp[e]) rfl
theorem zj9 {c o T N:Nat} {cs:List Value} {P M Q M':List Mem} {a b:Mem} {z:Nat} {A:Nat→Prop} {w w2 w3 w5 w6:World} {kf kl:Option Addr}
  (h:Ch w c o T cs (P++a::(M++b::Q))) (hk:Kd w A (P++a::(M++b::Q))) (hA:∀ x,A x→x<w.heap.size∧x ∉ c::blks (P++a::(M++b::Q)))
  (h2:w2=(w.setCell ⟨a.m,2,none⟩ (.string (S.B (a.p.text.drop z)))).setCell ⟨b.m,2,none⟩ (.string (S.B (b.p.text.drop z))))
  (f3:Fr (c::blks (P++a.za4 (a.p.text.drop z)::(M++b.za4 (b.p.text.drop z)::Q))) w2 w3) (hN:N=w3.heap.size) (f5:Fr (N::blks M) w3 w5) (hfrom:From M' M) (hs5:Seg w5 none M' none) (hp5:M'.map Mem.p=zfm (M.map Mem.p))
  (f6:Fr (c::blks (P++a.za4 (a.p.text.drop z)::b.za4 (b.p.text.drop z)::Q)) w5 w6) (hkf:kf=hd M' none)
  (h6:Ch w6 c o T cs (P++a.za4 (a.p.text.drop z) :: ⟨w5.heap.size+1,.mk (if z=2 then 15 else 14) [] [] (zfm (M.map Mem.p)) 0 false false,kf,kl⟩ :: b.za4 (b.p.text.drop z)::Q)) :
  zrv c o T cs P M Q a b z A w ⟨w5.heap.size+1,.mk (if z=2 then 15 else 14) [] [] (zfm (M.map Mem.p)) 0 false false,kf,kl⟩ w6:=by
 have hb:blks (P++a.za4 (a.p.text.drop z)::(M++b.za4 (b.p.text.drop z)::Q))=blks (P++a::(M++b::Q)):=by simp[blks,Mem.za4]
 have hsz2:w2.heap.size=w.heap.size:=by rw[h2];simp[World.setCell]
 have hf2:Fr (c::blks (P++a::(M++b::Q))) w w2:=by
  rw[h2];exact ((Fr.refl _ w).setCell ⟨a.m,2,none⟩ (.inl (by simp[blks])) _).setCell ⟨b.m,2,none⟩ (.inl (by simp[blks])) _
 rw[hb] at f3
 have hf3:=hf2.trans f3 (fun x hx=>.inl hx)
 have hMin:∀ x∈blks M,x∈c::blks (P++a::(M++b::Q)):=fun x hx=>List.mem_cons_of_mem _ (by rw[zc8,zab];simp[hx])
 have hf5:Fr (c::blks (P++a::(M++b::Q))) w w5:=hf3.trans f5 (fun x hx=>by
  rcases List.mem_cons.1 hx with hx|hx
  ·have:=hf3.size;exact .inr (by omega)
  ·exact .inl (hMin x hx))
 have hcin:∀ x∈c::blks (P++a.za4 (a.p.text.drop z)::b.za4 (b.p.text.drop z)::Q),x∈c::blks (P++a::(M++b::Q)):=fun x hx=>by
  simp[blks,Mem.za4] at hx ⊢
  rcases hx with hx|hx|hx|hx|hx
  ·exact .inl hx
  ·exact .inr (.inl hx)
  ·exact .inr (.inr (.inl hx))
  ·exact .inr (.inr (.inr (.inr (.inl hx))))
  ·exact .inr (.inr (.inr (.inr (.inr hx))))
 have hf6:=hf5.trans f6 (fun x hx=>.inl (hcin x hx))
 have hM'in:∀ e∈M',e.m∈blks M:=fun e he=>hfrom.blks e.m (List.mem_map.2 ⟨e,he,rfl⟩)
 have hMlt:∀ x∈blks M,x<w.heap.size:=fun x hx=>h.mlt x (by rw[zc8,zab];simp[hx])
 have hMout:∀ x∈blks M,x ∉ c::blks (P++a.za4 (a.p.text.drop z)::b.za4 (b.p.text.drop z)::Q):=fun x hx=>outM h x hx
 have hmove:∀ e,e∈P++a::(M++b::Q)→KRep w6 (fun x=>A x∨x∈blks M) e.kf e.p.kids:=fun e he=>(hk e he).move (fun x hx=>.inl hx) (fun x hx=>hf6.block x (hA x hx).1 (hA x hx).2)
 have hmove5:∀ e,e∈P++a::(M++b::Q)→KRep w5 (fun x=>A x∨x∈blks M) e.kf e.p.kids:=fun e he=>(hk e he).move (fun x hx=>.inl hx) (fun x hx=>hf5.block x (hA x hx).1 (hA x hx).2)
 refine ⟨h6,rfl,by have:=hf5.size;show w.heap.size≤w5.heap.size+1;omega,?_,hf6⟩
 intro e he
 rcases List.mem_append.1 he with he|he
 ·exact hmove e (by simp[he])
 ·rcases List.mem_cons.1 he with rfl|he
  ·exact hmove a (by simp)
  ·rcases List.mem_cons.1 he with rfl|he
   ·have h5:KRep w5 (fun x=>A x∨x∈blks M) (hd M' none) (M'.map Mem.p):=zhy hs5 (fun x hx=>.inr (hM'in x hx)) (fun x hx=>by
     obtain ⟨y,hy,h1,h2,h3⟩:=hfrom x hx
     rw[h2,h3];exact hmove5 y (by simp[hy]))
    rw[hp5] at h5
    have:KRep w6 (fun x=>A x∨x∈blks M) (hd M' none) (zfm (M.map Mem.p)):=h5.move (fun x hx=>hx) (fun x hx=>by
     have hl5:=hf5.size
     rcases hx with hx|hx
     ·exact f6.block x (by have:=(hA x hx).1;omega) (fun hm=>(hA x hx).2 (hcin x hm))
     ·exact f6.block x (by have:=hMlt x hx;omega) (hMout x hx))
    show KRep w6 _ kf (zfm (M.map Mem.p))
    rw[hkf];exact this
   ·rcases List.mem_cons.1 he with rfl|he
    ·exact hmove b (by simp)
    ·exact hmove e (by simp[he])
set_option maxRecDepth 100000 in
set_option maxHeartbeats 8000000 in
theorem zyb (c o T:Nat) (cs:List Value) (P M Q:List Mem) (a b:Mem) (A:Nat→Prop) (w:World) (h:Ch w c o T cs (P++a::(M++b::Q))) (hat:a.p.text≠[]) (hbt:b.p.text≠[]) (htx:txt (M.map Mem.p)≤1000000) (hal:a.p.text.length≤1000000) (hbl:b.p.text.length≤1000000) (hk:Kd w A (P++a::(M++b::Q))) (hA:∀ x,A x→x<w.heap.size∧x ∉ c::blks (P++a::(M++b::Q))) :
  Calls Tryz.prog 208 #[.pointer (some ⟨c,o,none⟩),.pointer (some ⟨a.m,0,none⟩),.pointer (some ⟨b.m,0,none⟩)] w fun e w'=>∃ n,e = .returned (.tuple #[])∧zrv c o T cs P M Q a b (zcc a.p b.p) A w n w':=by
 have hsp:P++a::(M++b::Q)=(P++a::M)++b::Q:=by simp
 have hseg:=h.seg
 have hA1:=((seg_append _ _ _ _ _).1 hseg).2.cells
 have hB1:∃ ah,w.heap[b.m]?=some (.cells (zd2 b ah (hd Q none)).toArray 179 (0,0)):=by
  rw[hsp] at hseg;exact ⟨_,((seg_append _ _ _ _ _).1 hseg).2.cells⟩
 obtain ⟨bh,hB1⟩:=hB1
 have a2:w.cell? ⟨a.m,2,none⟩=some (.string (S.B a.p.text)):=za0 hA1 2 _ rfl
 have b2:w.cell? ⟨b.m,2,none⟩=some (.string (S.B b.p.text)):=za0 hB1 2 _ rfl
 have af:=za7 hA1
 have bf:=za7 hB1
 have hab:¬ a.m=b.m:=by
  have:=h.nodup;rw[zc8] at this
  have h2:=(List.nodup_cons.1 (List.nodup_append.1 this).2.1).1
  intro x;exact h2 (by rw[x];simp[blks])
 have hba:¬ b.m=a.m:=fun x=>hab x.symm
 have has:(S.B a.p.text).size=a.p.text.length:=S.zbc _
 have hbs:(S.B b.p.text).size=b.p.text.length:=S.zbc _
 have hap:0<a.p.text.length:=List.length_pos_iff.2 hat
 have hbp:0<b.p.text.length:=List.length_pos_iff.2 hbt
 have hset:Hid (∀ z,Ch ((w.setCell ⟨a.m,2,none⟩ (.string (S.B (a.p.text.drop z)))).setCell ⟨b.m,2,none⟩ (.string (S.B (b.p.text.drop z)))) c o T cs (P++a.za4 (a.p.text.drop z)::(M++b.za4 (b.p.text.drop z)::Q))):=hid (fun z=>by
  have h1:=h.zin (a.p.text.drop z)
  rw[show P++a.za4 (a.p.text.drop z)::(M++b::Q)=(P++a.za4 (a.p.text.drop z)::M)++b::Q by simp] at h1
  have h2:=h1.zin (b.p.text.drop z)
  rw[show (P++a.za4 (a.p.text.drop z)::M)++b.za4 (b.p.text.drop z)::Q=P++a.za4 (a.p.text.drop z)::(M++b.za4 (b.p.text.drop z)::Q) by simp] at h2
  exact h2)
 have hTk:=hid (fun z=>zxp c o T cs P M Q (a.za4 (a.p.text.drop z)) (b.za4 (b.p.text.drop z)) _ (hset.out z))
 have hd1:=hid (fun z=>zz5 a.p.text z)
 have hd2:=hid (fun z=>zz5 b.p.text z)
 have hH:=hid h
 have hkH:=hid hk
 have hAH:=hid hA
 have htxH:=hid htx
 clear hseg hA1 hB1 h hk hA hsp hat hbt htx hset
 by_cases ha1:1<a.p.text.length
 ·by_cases hb1:1<b.p.text.length
  ·skip
   have hz:Hid (zcc a.p b.p=2):=hid (by unfold zcc;rw[if_pos ⟨ha1,hb1⟩])
   have hi1:(1:Int)<(a.p.text.length:Int):=by omega
   have hi2:(1:Int)<(b.p.text.length:Int):=by omega
   go_enter Tryz.func208,Tryz.ntmps208
   go_wp2_with fail
   rw[← has,← hbs,hd1.out 2,hd2.out 2]
   refine (hTk.out 2).mono ?_
   rintro e1 w3 ⟨rfl,hc3,hs3,hf3⟩
   have hM3:Hid (∀ ob,Ch (w3.alloc (.cells #[.pointer (hd M none),.pointer (lst M none)] 135)) w3.heap.size 0 135 [ob,ob] M):=hid (fun ob=>by
    have hn:=hH.out.nodup
    rw[zc8,zab] at hn
    have hlt:∀ e∈M,e.m<w3.heap.size:=fun e he=>hs3.lt e he
    exact ⟨hs3.move (fun e he=>Below.heap_alloc _ _ _ (hlt e he)),⟨za1 _ _,by simp⟩,(List.nodup_append.1 (List.nodup_cons.1 (List.nodup_append.1 hn).2.1).2).1,fun hm=>by
     obtain ⟨e,he,hem⟩:=List.mem_map.1 hm
     have:=hlt e he;omega⟩)
   have hJ:=hid (zid w3.heap.size 0 135 [undef,undef] M _ (hM3.out undef) htxH.out)
   have hc3H:=hid hc3
   have hf3H:=hid hf3
   have hsz3:w.heap.size≤w3.heap.size:=by have:=hf3.size;simpa [World.setCell] using this
   clear hc3 hs3 hf3
   go_wp2_with fail
   refine hJ.out.mono ?_
   rintro e1 w5 ⟨M',rfl,hc5,hp5,hfr5,hf5⟩
   have n0:=hc5.hdr.zqh
   have n1:=hc5.hdr.cellL
   have hsz5:w3.heap.size+1≤w5.heap.size:=by have:=hf5.size;simpa using this
   have hCc:Ch w5 c o T cs (P++a.za4 (a.p.text.drop 2)::b.za4 (b.p.text.drop 2)::Q):=hc3H.out.move (fun x hx=>by
    have hxl:x<w3.heap.size:=by rcases List.mem_cons.1 hx with rfl|hx;exact hc3H.out.lt;exact hc3H.out.mlt x hx
    have hxo:x ∉ w3.heap.size::blks M:=fun hm=>by
     rcases List.mem_cons.1 hm with hm|hm
     ·omega
     ·exact outM hH.out x hm hx
    rw[hf5.block x (by simp;omega) hxo,Below.heap_alloc _ _ _ hxl])
   have hIn:=hid (zja c o T cs P (b.za4 (b.p.text.drop 2)::Q) (a.za4 (a.p.text.drop 2)) (.mk (if (2:Nat)=2 then 15 else 14) [] [] (zfm (M.map Mem.p)) 0 false false) (hd M' none) (lst M' none) w5 hCc)
   have hall:=hid (And.intro hc5.seg (And.intro hp5 (And.intro hfr5 hf5)))
   clear hc5 hp5 hfr5 hf5 hCc
   go_wp2_with fail
   refine hIn.out.mono ?_
   rintro e1 w6 ⟨rfl,hc6,hf6,hz6⟩
   have h6:=hid (And.intro hc6 hf6)
   clear hc6 hf6 hz6
   go_wp2
   go_end0
   rw[hz.out]
   exact ⟨_,rfl,zj9 hH.out hkH.out hAH.out rfl hf3H.out rfl (((Fr.refl _ w3).alloc _).trans hall.out.2.2.2 (fun x hx=>.inl hx)) hall.out.2.2.1 hall.out.1 hall.out.2.1.out h6.out.2 rfl h6.out.1⟩
  ·skip
   have hz:Hid (zcc a.p b.p=1):=hid (by unfold zcc;rw[if_neg (fun x=>hb1 x.2)])
   have hi1:(1:Int)<(a.p.text.length:Int):=by omega
   have hi2:¬ (1:Int)<(b.p.text.length:Int):=by omega
   go_enter Tryz.func208,Tryz.ntmps208
   go_wp2_with fail
   rw[← has,← hbs,hd1.out 1,hd2.out 1]
   refine (hTk.out 1).mono ?_
   rintro e1 w3 ⟨rfl,hc3,hs3,hf3⟩
   have hM3:Hid (∀ ob,Ch (w3.alloc (.cells #[.pointer (hd M none),.pointer (lst M none)] 135)) w3.heap.size 0 135 [ob,ob] M):=hid (fun ob=>by
    have hn:=hH.out.nodup
    rw[zc8,zab] at hn
    have hlt:∀ e∈M,e.m<w3.heap.size:=fun e he=>hs3.lt e he
    exact ⟨hs3.move (fun e he=>Below.heap_alloc _ _ _ (hlt e he)),⟨za1 _ _,by simp⟩,(List.nodup_append.1 (List.nodup_cons.1 (List.nodup_append.1 hn).2.1).2).1,fun hm=>by
     obtain ⟨e,he,hem⟩:=List.mem_map.1 hm
     have:=hlt e he;omega⟩)
   have hJ:=hid (zid w3.heap.size 0 135 [undef,undef] M _ (hM3.out undef) htxH.out)
   have hc3H:=hid hc3
   have hf3H:=hid hf3
   have hsz3:w.heap.size≤w3.heap.size:=by have:=hf3.size;simpa [World.setCell] using this
   clear hc3 hs3 hf3
   go_wp2_with fail
   refine hJ.out.mono ?_
   rintro e1 w5 ⟨M',rfl,hc5,hp5,hfr5,hf5⟩
   have n0:=hc5.hdr.zqh
   have n1:=hc5.hdr.cellL
   have hsz5:w3.heap.size+1≤w5.heap.size:=by have:=hf5.size;simpa using this
   have hCc:Ch w5 c o T cs (P++a.za4 (a.p.text.drop 1)::b.za4 (b.p.text.drop 1)::Q):=hc3H.out.move (fun x hx=>by
    have hxl:x<w3.heap.size:=by rcases List.mem_cons.1 hx with rfl|hx;exact hc3H.out.lt;exact hc3H.out.mlt x hx
    have hxo:x ∉ w3.heap.size::blks M:=fun hm=>by
     rcases List.mem_cons.1 hm with hm|hm
     ·omega
     ·exact outM hH.out x hm hx
    rw[hf5.block x (by simp;omega) hxo,Below.heap_alloc _ _ _ hxl])
   have hIn:=hid (zja c o T cs P (b.za4 (b.p.text.drop 1)::Q) (a.za4 (a.p.text.drop 1)) (.mk (if (1:Nat)=2 then 15 else 14) [] [] (zfm (M.map Mem.p)) 0 false false) (hd M' none) (lst M' none) w5 hCc)
   have hall:=hid (And.intro hc5.seg (And.intro hp5 (And.intro hfr5 hf5)))
   clear hc5 hp5 hfr5 hf5 hCc
   go_wp2_with fail
   refine hIn.out.mono ?_
   rintro e1 w6 ⟨rfl,hc6,hf6,hz6⟩
   have h6:=hid (And.intro hc6 hf6)
   clear hc6 hf6 hz6
   go_wp2
   go_end0
   rw[hz.out]
   exact ⟨_,rfl,zj9 hH.out hkH.out hAH.out rfl hf3H.out rfl (((Fr.refl _ w3).alloc _).trans hall.out.2.2.2 (fun x hx=>.inl hx)) hall.out.2.2.1 hall.out.1 hall.out.2.1.out h6.out.2 rfl h6.out.1⟩
 ·skip
  have hz:Hid (zcc a.p b.p=1):=hid (by unfold zcc;rw[if_neg (fun x=>ha1 x.1)])
  have hi1:¬ (1:Int)<(a.p.text.length:Int):=by omega
  go_enter Tryz.func208,Tryz.ntmps208
  go_wp2_with fail
  rw[← has,← hbs,hd1.out 1,hd2.out 1]
  refine (hTk.out 1).mono ?_
  rintro e1 w3 ⟨rfl,hc3,hs3,hf3⟩
  have hM3:Hid (∀ ob,Ch (w3.alloc (.cells #[.pointer (hd M none),.pointer (lst M none)] 135)) w3.heap.size 0 135 [ob,ob] M):=hid (fun ob=>by
   have hn:=hH.out.nodup
   rw[zc8,zab] at hn
   have hlt:∀ e∈M,e.m<w3.heap.size:=fun e he=>hs3.lt e he
   exact ⟨hs3.move (fun e he=>Below.heap_alloc _ _ _ (hlt e he)),⟨za1 _ _,by simp⟩,(List.nodup_append.1 (List.nodup_cons.1 (List.nodup_append.1 hn).2.1).2).1,fun hm=>by
    obtain ⟨e,he,hem⟩:=List.mem_map.1 hm
    have:=hlt e he;omega⟩)
  have hJ:=hid (zid w3.heap.size 0 135 [undef,undef] M _ (hM3.out undef) htxH.out)
  have hc3H:=hid hc3
  have hf3H:=hid hf3
  have hsz3:w.heap.size≤w3.heap.size:=by have:=hf3.size;simpa [World.setCell] using this
  clear hc3 hs3 hf3
  go_wp2_with fail
  refine hJ.out.mono ?_
  rintro e1 w5 ⟨M',rfl,hc5,hp5,hfr5,hf5⟩
  have n0:=hc5.hdr.zqh
  have n1:=hc5.hdr.cellL
  have hsz5:w3.heap.size+1≤w5.heap.size:=by have:=hf5.size;simpa using this
  have hCc:Ch w5 c o T cs (P++a.za4 (a.p.text.drop 1)::b.za4 (b.p.text.drop 1)::Q):=hc3H.out.move (fun x hx=>by
   have hxl:x<w3.heap.size:=by rcases List.mem_cons.1 hx with rfl|hx;exact hc3H.out.lt;exact hc3H.out.mlt x hx
   have hxo:x ∉ w3.heap.size::blks M:=fun hm=>by
    rcases List.mem_cons.1 hm with hm|hm
    ·omega
    ·exact outM hH.out x hm hx
   rw[hf5.block x (by simp;omega) hxo,Below.heap_alloc _ _ _ hxl])
  have hIn:=hid (zja c o T cs P (b.za4 (b.p.text.drop 1)::Q) (a.za4 (a.p.text.drop 1)) (.mk (if (1:Nat)=2 then 15 else 14) [] [] (zfm (M.map Mem.p)) 0 false false) (hd M' none) (lst M' none) w5 hCc)
  have hall:=hid (And.intro hc5.seg (And.intro hp5 (And.intro hfr5 hf5)))
  clear hc5 hp5 hfr5 hf5 hCc
  go_wp2_with fail
  refine hIn.out.mono ?_
  rintro e1 w6 ⟨rfl,hc6,hf6,hz6⟩
  have h6:=hid (And.intro hc6 hf6)
  clear hc6 hf6 hz6
  go_wp2
  go_end0
  rw[hz.out]
  exact ⟨_,rfl,zj9 hH.out hkH.out hAH.out rfl hf3H.out rfl (((Fr.refl _ w3).alloc _).trans hall.out.2.2.2 (fun x hx=>.inl hx)) hall.out.2.2.1 hall.out.1 hall.out.2.1.out h6.out.2 rfl h6.out.1⟩
def zeg (s:Pt):List Pt→Option (List Pt × Pt × List Pt)
 | []=>none
 | p::r=>match zeg s r with
  | some (l1,x,m)=>some (p::l1,x,m)
  | none=>if opens s p=true then some ([],p,r) else none
theorem zmw (s:Pt) (l:List Pt) (h:∀ x∈l,opens s x=false):zeg s l=none:=by
 induction l with
 | nil=>rfl
 | cons p r ih=>simp only[zeg];rw[ih (fun x hx=>h x (by simp[hx]))];simp[h p (by simp)]
theorem zty (s:Pt) (l1:List Pt) (x:Pt) (m:List Pt) (hx:opens s x=true) (hm:∀ y∈m,opens s y=false):zeg s (l1++x::m)=some (l1,x,m):=by
 induction l1 with
 | nil=>simp only[List.nil_append,zeg];rw[zmw s m hm];simp[hx]
 | cons p r ih=>simp only[List.cons_append,zeg];rw[ih]
def zcb:Nat→List Pt→Pt→List Pt × Pt
 | 0,L,s=>(L,s)
 | f+1,L,s=>if s.rc=true∧s.text≠[] then (match zeg s L with
   | none=>(L,s)
   | some (l1,x,m)=>zcb f (l1++[x.za4 (x.text.drop (zcc x s)),zgh (zcc x s) m]) (s.za4 (s.text.drop (zcc x s)))) else (L,s)
def zil:List Pt→List Pt→List Pt
 | L,[]=>L
 | L,s::r=>zil ((zcb s.text.length L s).1++[(zcb s.text.length L s).2]) r
def pairT (l:List Pt):List Pt:=zil [] l
theorem zdj (f:Nat) (L:List Pt) (s:Pt) (h:¬ (s.rc=true∧s.text≠[])):zcb f L s=(L,s):=by
 cases f with
 | zero=>rfl
 | succ f=>simp only[zcb];rw[if_neg h]
theorem zg7 (f:Nat) (L:List Pt) (s:Pt) (h:zeg s L=none):zcb f L s=(L,s):=by
 cases f with
 | zero=>rfl
 | succ f=>simp only[zcb];rw[h];simp
theorem zg4 (f:Nat) (L l1 m:List Pt) (s x:Pt) (h1:s.rc=true) (h2:s.text≠[]) (h:zeg s L=some (l1,x,m)):zcb (f+1) L s=zcb f (l1++[x.za4 (x.text.drop (zcc x s)),zgh (zcc x s) m]) (s.za4 (s.text.drop (zcc x s))):=by
 simp only[zcb];rw[if_pos ⟨h1,h2⟩,h]
theorem zqn (f g:Nat) (L:List Pt) (s:Pt) (hf:s.text.length≤f) (hg:s.text.length≤g):zcb f L s=zcb g L s:=by
 induction f generalizing g L s with
 | zero=>
  have:s.text=[]:=List.length_eq_zero_iff.1 (by omega)
  rw[zdj 0 L s (fun h=>h.2 this),zdj g L s (fun h=>h.2 this)]
 | succ f ih=>
  by_cases hc:s.rc=true∧s.text≠[]
  ·have hpos:0<s.text.length:=List.length_pos_iff.2 hc.2
   obtain ⟨g',rfl⟩:∃ g',g=g' + 1:=⟨g-1,by omega⟩
   cases hl:zeg s L with
   | none=>rw[zg7 _ _ _ hl,zg7 _ _ _ hl]
   | some v=>
    obtain ⟨l1,x,m⟩:=v
    rw[zg4 _ _ _ _ _ _ hc.1 hc.2 hl,zg4 _ _ _ _ _ _ hc.1 hc.2 hl]
    have hz:1≤zcc x s:=by unfold zcc;split <;> omega
    have ht:(s.za4 (s.text.drop (zcc x s))).text.length=s.text.length-zcc x s:=by simp[Pt.za4,Pt.text]
    exact ih g' _ _ (by omega) (by omega)
  ·rw[zdj _ _ _ hc,zdj _ _ _ hc]
theorem zec (a b:List Pt):txt (a++b)=txt a+txt b:=by simp[txt]
theorem ziu (p:Pt) (r:List Pt):txt (p::r)=p.text.length+txt r:=by simp[txt]
structure zl7 (c o T:Nat) (cs:List Value) (l:List Mem) (A0:Nat→Prop) (w:World) (L R:List Mem) (A:Nat→Prop) (wr:World):Prop where
 ch:Ch wr c o T cs (L++R)
 kids:Kd wr A (L++R)
 dead:∀ x,A x→x<wr.heap.size∧x ∉ c::blks (L++R)
 old:∀ x,A x→A0 x∨x∈blks l∨w.heap.size≤x
 live:∀ x∈blks (L++R),x∈blks l∨w.heap.size≤x
 bytes:txt ((L++R).map Mem.p)≤1000000
 runs:∀ x∈L++R,x.p.rs≤1000000
 fr:Fr (c::blks l) w wr
theorem zl7.below {c o T:Nat} {cs:List Value} {l:List Mem} {A0:Nat→Prop} {w:World} {L R:List Mem} {A:Nat→Prop} {wr w':World} (h:zl7 c o T cs l A0 w L R A wr) (hb:Below wr.heap.size wr w'):zl7 c o T cs l A0 w L R A w':=
 ⟨h.ch.move (fun x hx=>hb.block x (by rcases List.mem_cons.1 hx with rfl|hx;exact h.ch.lt;exact h.ch.mlt x hx)),fun e he=>(h.kids e he).move (fun x hx=>hx) (fun x hx=>hb.block x (h.dead x hx).1),fun x hx=>⟨Nat.lt_of_lt_of_le (h.dead x hx).1 hb.size,(h.dead x hx).2⟩,h.old,h.live,h.bytes,h.runs,h.fr.trans (Fr.zhq (L:=[]) hb) (fun x hx=>by simp at hx)⟩
theorem zl7.wrapped {c o T:Nat} {cs:List Value} {l:List Mem} {A0:Nat→Prop} {w:World} {L1 M R:List Mem} {x s:Mem} {A:Nat→Prop} {wr w':World} {n:Mem} {z:Nat} (h:zl7 c o T cs l A0 w (L1++x::M) (s::R) A wr) (hw:zrv c o T cs L1 M R x s z A wr n w') :
  zl7 c o T cs l A0 w (L1++[x.za4 (x.p.text.drop z),n]) (s.za4 (s.p.text.drop z)::R) (fun y=>A y∨y∈blks M) w':=by
 have e1:(L1++[x.za4 (x.p.text.drop z),n])++(s.za4 (s.p.text.drop z)::R)=L1++x.za4 (x.p.text.drop z)::n::s.za4 (s.p.text.drop z)::R:=by simp
 have e0:(L1++x::M)++s::R=L1++x::(M++s::R):=by simp
 have hch:=h.ch
 have hdead:=h.dead
 have hlive:=h.live
 have hbytes:=h.bytes
 have hruns:=h.runs
 rw[e0] at hch hdead hlive hbytes hruns
 have hwl:=hw.fr.size
 have hMl:∀ y∈blks M,y∈blks (L1++x::(M++s::R)):=fun y hy=>by rw[zc8,zab];simp[hy]
 have hnew:∀ y∈blks (L1++x.za4 (x.p.text.drop z)::n::s.za4 (s.p.text.drop z)::R),y∈blks (L1++x::(M++s::R))∨wr.heap.size≤y:=fun y hy=>by
  simp[blks,Mem.za4] at hy ⊢
  rcases hy with hy|hy|hy|hy|hy
  ·exact .inl (.inl hy)
  ·exact .inl (.inr (.inl hy))
  ·exact .inr (by have:=hw.new;omega)
  ·exact .inl (.inr (.inr (.inr (.inl hy))))
  ·exact .inl (.inr (.inr (.inr (.inr hy))))
 have hwr:w.heap.size≤wr.heap.size:=h.fr.size
 refine ⟨by rw[e1];exact hw.ch,by rw[e1];exact hw.kids,?_,?_,?_,?_,?_,?_⟩
 ·rw[e1]
  intro y hy
  rcases hy with hy|hy
  ·refine ⟨Nat.lt_of_lt_of_le (hdead y hy).1 hwl,fun hm=>?_⟩
   rcases List.mem_cons.1 hm with hm|hm
   ·exact (hdead y hy).2 (by rw[hm];exact List.mem_cons_self)
   ·rcases hnew y hm with hm|hm
    ·exact (hdead y hy).2 (List.mem_cons_of_mem _ hm)
    ·have:=(hdead y hy).1;omega
  ·refine ⟨Nat.lt_of_lt_of_le (hch.mlt y (hMl y hy)) hwl,fun hm=>?_⟩
   have ho:=outM (ta:=x.p.text.drop z) (tb:=s.p.text.drop z) hch y hy
   apply ho
   rcases List.mem_cons.1 hm with hm|hm
   ·rw[hm];exact List.mem_cons_self
   ·refine List.mem_cons_of_mem _ ?_
    have hnn:y≠n.m:=fun e=>by have:=hch.mlt y (hMl y hy);have:=hw.new;omega
    simp[blks,Mem.za4] at hm ⊢
    rcases hm with hm|hm|hm|hm|hm
    ·exact .inl hm
    ·exact .inr (.inl hm)
    ·exact absurd hm hnn
    ·exact .inr (.inr (.inl hm))
    ·exact .inr (.inr (.inr hm))
 ·intro y hy
  rcases hy with hy|hy
  ·exact h.old y hy
  ·rcases hlive y (hMl y hy) with h1|h1
   ·exact .inr (.inl h1)
   ·exact .inr (.inr h1)
 ·rw[e1];intro y hy
  rcases hnew y hy with h1|h1
  ·exact hlive y h1
  ·exact .inr (by omega)
 ·rw[e1]
  have hn:n.p.text=[]:=by rw[hw.part];rfl
  have t1:(x.za4 (x.p.text.drop z)).p.text=x.p.text.drop z:=rfl
  have t2:(s.za4 (s.p.text.drop z)).p.text=s.p.text.drop z:=rfl
  simp only[List.map_append,List.map_cons,zec,ziu,hn,t1,t2,List.length_drop,List.length_nil] at hbytes ⊢
  omega
 ·rw[e1];intro y hy
  rcases List.mem_append.1 hy with hy|hy
  ·exact hruns y (by simp[hy])
  ·rcases List.mem_cons.1 hy with rfl|hy
   ·exact hruns x (by simp)
   ·rcases List.mem_cons.1 hy with rfl|hy
    ·rw[hw.part];simp[zgh,Pt.rs]
    ·rcases List.mem_cons.1 hy with rfl|hy
     ·exact hruns s (by simp)
     ·exact hruns y (by simp[hy])
 ·refine h.fr.trans hw.fr (fun y hy=>?_)
  rcases List.mem_cons.1 hy with hy|hy
  ·exact .inl (by rw[hy];exact List.mem_cons_self)
  ·rcases hlive y hy with h1|h1
   ·exact .inl (List.mem_cons_of_mem _ h1)
   ·exact .inr h1
set_option maxRecDepth 100000 in
set_option maxHeartbeats 16000000 in
theorem zyi (c o T:Nat) (cs:List Value) (l:List Mem) (A0:Nat→Prop) (w:World) (h:zl7 c o T cs l A0 w [] l A0 w) :
  Calls Tryz.prog 163 #[.pointer (some ⟨c,o,none⟩)] w fun e w'=>∃ L A,e = .returned (.tuple #[])∧Hid (L.map Mem.p=pairT (l.map Mem.p))∧zl7 c o T cs l A0 w L [] A w':=by
 have hF:=hid (zlc c o (.pointer (hd l none)) w h.ch.hdr.zqh ⟨_,rfl⟩)
 have hH:=hid h
 clear h
 go_enter Tryz.func163,Tryz.ntmps163
 go_wp2_with fail
 refine hF.out.mono ?_
 rintro e w' ⟨rfl,rfl⟩
 go_wp2
 go_loopg [2,3] l.length (fun k s2 _ wr=>∃ L R A,k=R.length∧s2 = .pointer (hd R none)∧Hid (zil (L.map Mem.p) (R.map Mem.p)=pairT (l.map Mem.p))∧zl7 c o T cs l A0 w L R A wr)
 case atStart=>exact ⟨[],l,A0,rfl,rfl,hid rfl,hH.out⟩
 case round=>
  obtain ⟨L,R,A,rfl,rfl,hsp,hS⟩:=hrel
  cases R with
  | nil=>
   have hSH:=hid hS
   clear hS
   rw[show hd ([]:List Mem) none=none from rfl]
   go_wp2
   go_end0
   exact ⟨L,A,rfl,hid hsp.out,hSH.out⟩
  | cons s0 R=>
   have hSH:=hid hS
   rw[show hd (s0::R) none=some (⟨s0.m,0,none⟩:Addr) from rfl]
   clear hS
   go_wp2
   go_loopg [3] s0.p.text.length (fun k _ wr=>∃ L' s A,s.m=s0.m∧k=s.p.text.length∧Hid (zcb k (L'.map Mem.p) s.p=zcb s0.p.text.length (L.map Mem.p) s0.p)∧zl7 c o T cs l A0 w L' (s::R) A wr)
   case atStart=>exact ⟨L,s0,A,rfl,rfl,hid rfl,hSH.out⟩
   case round=>
    obtain ⟨L',s,A',hsm,rfl,hcl,hS'⟩:=hrel
    have hch:=hS'.ch
    have hseg:=hch.seg
    have hSc:=((seg_append _ _ _ _ _).1 hseg).2.cells
    have s2:wr.cell? ⟨s.m,2,none⟩=some (.string (S.B s.p.text)):=za0 hSc 2 _ rfl
    have s7:wr.cell? ⟨s.m,7,none⟩=some (.bool s.p.rc):=za0 hSc 7 _ rfl
    have hSl:s.m<wr.heap.size:=hch.mlt s.m (by simp[blks])
    have hBh:=hid (fun (wx:World) (hx:Below wr.heap.size wr wx)=>zj6 s.m (.pointer (hd R none)) wx (za0 ((hx.block s.m hSl).trans hSc) 9 _ rfl) ⟨_,rfl⟩)
    have hS'H:=hid hS'
    have hmvF:Hid (∀ wx,Below wr.heap.size wr wx→zl7 c o T cs l A0 w (L' ++ [s]) R A' wx):=hid (fun wx hx=>by
     have h1:=hS'H.out.below hx
     have e1:(L' ++ [s])++R=L' ++ s::R:=by simp
     exact ⟨by rw[e1];exact h1.ch,by rw[e1];exact h1.kids,by rw[e1];exact h1.dead,h1.old,by rw[e1];exact h1.live,by rw[e1];exact h1.bytes,by rw[e1];exact h1.runs,h1.fr⟩)
    have hendF:Hid (zcb s.p.text.length (L'.map Mem.p) s.p=(L'.map Mem.p,s.p)→zil ((L' ++ [s]).map Mem.p) (R.map Mem.p)=pairT (l.map Mem.p)):=hid (fun h1=>by
     have h2:=hsp.out
     simp only[List.map_cons,zil] at h2
     rw[← hcl.out,h1] at h2
     rw[List.map_append];exact h2)
    have hopn:s.p.text≠[]→_:=fun ht=>zpb L' R s wr hseg ht hS'.runs
    have hopnH:=hid hopn
    have hsmH:=hid hsm
    rw[hsm] at s2 s7 hBh hSl
    clear hch hseg hSc hS' hopn
    cases hrc:s.p.rc
    ·rw[hrc] at s7
     have hend:=hid (hendF.out (zdj _ _ _ (fun h=>by rw[hrc] at h;exact absurd h.1 (by simp))))
     have hmv:=hid (hmvF.out wr (Below.refl _ _))
     clear hrc
     go_wp2_with (go_at_call 110;refine (hBh.out _ (Below.refl _ _)).mono ?_;rintro e1 w' ⟨rfl,rfl⟩)
     go_roundg R.length
     case rel=>exact ⟨L' ++ [s],R,A',rfl,rfl,hend.out,hmv.out⟩
     case measure=>simp
    ·rw[hrc] at s7
     by_cases hte:s.p.text=[]
     ·have hend:=hid (hendF.out (zdj _ _ _ (fun h=>h.2 hte)))
      have hmv:=hid (hmvF.out wr (Below.refl _ _))
      rw[hte] at s2
      have s2':wr.cell? ⟨s0.m,2,none⟩=some (.string ⟨#[]⟩):=s2
      clear hrc s2 hte
      go_wp2_with (go_at_call 110;refine (hBh.out _ (Below.refl _ _)).mono ?_;rintro e1 w' ⟨rfl,rfl⟩)
      go_roundg R.length
      case rel=>exact ⟨L' ++ [s],R,A',rfl,rfl,hend.out,hmv.out⟩
      case measure=>simp
     ·have htp:0<(S.B s.p.text).size:=by rw[S.zbc];exact List.length_pos_iff.2 hte
      have htn:=S.zbl _ htp
      have htn':=S.zb2 _ htp
      have hop:=hid (hopnH.out hte)
      rw[hsm] at hop
      have hrcH:=hid hrc
      have hteH:=hid hte
      clear hrc hte hsm
      go_wp2_with fail
      refine hop.out.mono ?_
      rintro e1 w1 ⟨r,rfl,hb1,hr⟩
      rcases hr.out with ⟨rfl,hall⟩|⟨L1,x,M,hL',rfl,hox,hoM⟩
      ·have hend:=hid (hendF.out (zg7 _ _ _ (zmw _ _ (fun y hy=>by
        obtain ⟨e,he,rfl⟩:=List.mem_map.1 hy
        exact hall e he))))
       have hmv:=hid (hmvF.out w1 hb1)
       have hb1H:=hid hb1
       clear hall hb1 hr
       go_wp2_with (go_at_call 110;refine (hBh.out _ hb1H.out).mono ?_;rintro e1 w' ⟨rfl,rfl⟩)
       go_roundg R.length
       case rel=>exact ⟨L' ++ [s],R,A',rfl,rfl,hend.out,hmv.out⟩
       case measure=>simp
      ·subst hL'
       have hS1:=hS'H.out.below hb1
       have e0:(L1++x::M)++s::R=L1++x::(M++s::R):=by simp
       have hxt:x.p.text≠[]:=fun e=>by unfold opens at hox;rw[e] at hox;simp at hox
       have hby:=hS1.bytes
       rw[e0] at hby
       simp only[List.map_append,List.map_cons,zec,ziu] at hby
       have hW:=zyb c o T cs L1 M R x s A' w1 (by rw[← e0];exact hS1.ch) hxt hteH.out (by omega) (by omega) (by omega) (by rw[← e0];exact hS1.kids) (by rw[← e0];exact hS1.dead)
       rw[hsmH.out] at hW
       have hWH:=hid hW
       have hS1H:=hid hS1
       have hcl2:Hid (∀ n:Mem,n.p=zgh (zcc x.p s.p) (M.map Mem.p)→zcb (s.za4 (s.p.text.drop (zcc x.p s.p))).p.text.length ((L1++[x.za4 (x.p.text.drop (zcc x.p s.p)),n]).map Mem.p) (s.za4 (s.p.text.drop (zcc x.p s.p))).p=zcb s0.p.text.length (L.map Mem.p) s0.p):=hid (fun n hn=>by
        rw[← hcl.out]
        have hpos:0<s.p.text.length:=List.length_pos_iff.2 hteH.out
        obtain ⟨f,hf⟩:∃ f,s.p.text.length=f+1:=⟨s.p.text.length-1,by omega⟩
        have hlo:zeg s.p ((L1++x::M).map Mem.p)=some (L1.map Mem.p,x.p,M.map Mem.p):=by
         rw[List.map_append,List.map_cons]
         exact zty _ _ _ _ hox (fun y hy=>by obtain ⟨e,he,rfl⟩:=List.mem_map.1 hy;exact hoM e he)
        rw[hf,zg4 _ _ _ _ _ _ hrcH.out hteH.out hlo]
        have hz:1≤zcc x.p s.p:=by unfold zcc;split <;> omega
        have ht2:(s.za4 (s.p.text.drop (zcc x.p s.p))).p.text.length=s.p.text.length-zcc x.p s.p:=by simp[Mem.za4,Pt.za4,Pt.text]
        rw[List.map_append,List.map_cons,List.map_cons,List.map_nil,hn]
        exact zqn _ _ _ _ (by omega) (by show (s.za4 (s.p.text.drop (zcc x.p s.p))).p.text.length≤f;omega))
       have hlt2:Hid ((s.za4 (s.p.text.drop (zcc x.p s.p))).p.text.length<s.p.text.length):=hid (by
        have hpos:0<s.p.text.length:=List.length_pos_iff.2 hteH.out
        have hz:1≤zcc x.p s.p:=by unfold zcc;split <;> omega
        have ht2:(s.za4 (s.p.text.drop (zcc x.p s.p))).p.text.length=s.p.text.length-zcc x.p s.p:=by simp[Mem.za4,Pt.za4,Pt.text]
        omega)
       have hsm2:Hid ((s.za4 (s.p.text.drop (zcc x.p s.p))).m=s0.m):=hid hsmH.out
       clear hS1 hW hby hxt hb1 hr hox hoM e0
       rw[show (some x.ad:Option Addr)=some (⟨x.m,0,none⟩:Addr) from rfl]
       go_wp2_with fail
       refine hWH.out.mono ?_
       rintro e1 w2 ⟨n,rfl,hwr⟩
       have hN:=hid (hS1H.out.wrapped hwr)
       have hc2:=hid (hcl2.out n hwr.part)
       clear hwr
       go_wp2
       go_roundg (s.za4 (s.p.text.drop (zcc x.p s.p))).p.text.length
       case rel=>exact ⟨_,_,_,hsm2.out,rfl,hc2,hN.out⟩
       case measure=>exact hlt2.out
def zd7 (l:List Pt):List Pt:=zfm (pairT l)
structure zra (c o T:Nat) (cs:List Value) (l:List Mem) (A0:Nat→Prop) (w:World) (l':List Mem) (A:Nat→Prop) (w':World):Prop where
 ch:Ch w' c o T cs l'
 part:l'.map Mem.p=zd7 (l.map Mem.p)
 kids:Kd w' A l'
 dead:∀ x,A x→x<w'.heap.size∧x ∉ c::blks l'
 old:∀ x,A x→A0 x∨x∈blks l∨w.heap.size≤x
 live:∀ x∈blks l',x∈blks l∨w.heap.size≤x
 fr:Fr (c::blks l) w w'
set_option maxHeartbeats 2000000 in
theorem zj5 (c o T:Nat) (cs:List Value) (l:List Mem) (A0:Nat→Prop) (w:World) (h:Ch w c o T cs l) (hk:Kd w A0 l) (hA:∀ x,A0 x→x<w.heap.size∧x ∉ c::blks l) (ht:txt (l.map Mem.p)≤1000000) (hr:∀ x∈l,x.p.rs≤1000000) :
  Calls Tryz.prog 107 #[.pointer (some ⟨c,o,none⟩)] w fun e w'=>∃ l' A,e = .returned (.tuple #[])∧zra c o T cs l A0 w l' A w':=by
 have hP:=hid (zyi c o T cs l A0 w ⟨h,hk,hA,fun x hx=>.inl hx,fun x hx=>.inl hx,ht,hr,Fr.refl _ _⟩)
 clear h hk hA ht hr
 go_enter Tryz.func107,Tryz.ntmps107
 go_wp2_with fail
 refine hP.out.mono ?_
 rintro e w1 ⟨L,A,rfl,hpt,hS⟩
 have hch:Ch w1 c o T cs L:=by have:=hS.ch;rwa [List.append_nil] at this
 have hby:txt (L.map Mem.p)≤1000000:=by have:=hS.bytes;rwa [List.append_nil] at this
 have hJ:=hid (zid c o T cs L w1 hch hby)
 have hSH:=hid hS
 clear hS hch hby
 go_wp2_with fail
 refine hJ.out.mono ?_
 rintro e w2 ⟨l',rfl,hc2,hp2,hfr2,hf2⟩
 have hall:=hid (And.intro hc2 (And.intro hp2 (And.intro hfr2 hf2)))
 clear hc2 hp2 hfr2 hf2
 go_wp2
 go_end0
 obtain ⟨hc2,hp2,hfr2,hf2⟩:=hall.out
 have hS:=hSH.out
 have hd:=hS.dead
 have hl:=hS.live
 have hkd:=hS.kids
 rw[List.append_nil] at hd hl hkd
 refine ⟨l',A,rfl,hc2,by rw[hp2.out,hpt.out];rfl,?_,?_,hS.old,fun x hx=>hl x (hfr2.blks x hx),hS.fr.trans hf2 (fun x hx=>?_)⟩
 ·intro e he
  obtain ⟨e1,h1,h2,h3,h4⟩:=hfr2 e he
  rw[h3,h4]
  exact (hkd e1 h1).move (fun x hx=>hx) (fun x hx=>hf2.block x (hd x hx).1 (hd x hx).2)
 ·intro x hx
  refine ⟨Nat.lt_of_lt_of_le (hd x hx).1 hf2.size,fun hm=>(hd x hx).2 ?_⟩
  rcases List.mem_cons.1 hm with hm|hm
  ·rw[hm];exact List.mem_cons_self
  ·exact List.mem_cons_of_mem _ (hfr2.blks x hm)
 ·rcases List.mem_cons.1 hx with hx|hx
  ·exact .inl (by rw[hx];exact List.mem_cons_self)
  ·rcases hl x hx with h1|h1
   ·exact .inl (List.mem_cons_of_mem _ h1)
   ·exact .inr h1
end Go.Proofs.YtlojgpkajkedeaaGreatDoor
