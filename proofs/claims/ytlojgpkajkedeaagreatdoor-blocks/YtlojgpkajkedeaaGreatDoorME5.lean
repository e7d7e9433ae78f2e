import Derived.Test.YtlojgpkajkedeaaGreatDoorME1
import Derived.Deep.LoopGhost
namespace Go.Proofs.YtlojgpkajkedeaaGreatDoor
open Go.RowKit
set_option maxRecDepth 100000 in
set_option maxHeartbeats 4000000 in
theorem zyq (c o T:Nat) (cs:List Value) (P M Q:List Mem) (a m0 b:Mem) (w:World) (h:Ch w c o T cs (P++a::(m0::M++b::Q))) :
  Calls Tryz.prog 238 #[.pointer (some ⟨c,o,none⟩),.pointer (some ⟨a.m,0,none⟩),.pointer (some ⟨b.m,0,none⟩)] w fun e w'=>e = .returned (.agg #[.pointer (some ⟨m0.m,0,none⟩),.pointer (lst (m0::M) none)])∧Ch w' c o T cs (P++a::b::Q)∧Seg w' none (m0::M) none∧Fr (c::blks (P++a::(m0::M++b::Q))) w w':=by
 have hcl:=h.lt
 obtain ⟨W,hWW⟩:∃ W,W=P++a::(m0::M++b::Q):=⟨_,rfl⟩
 rw[← hWW] at h ⊢
 have hsp:W=(P++[a])++((m0::M)++b::Q):=by rw[hWW];simp
 have hbs:blks W=blks (P++[a])++(blks (m0::M)++blks (b::Q)):=by rw[hsp,zab (P++[a]),zab (m0::M)]
 have hseg:=h.seg
 rw[hsp,seg_append,seg_append,seg_append] at hseg
 have hA:=hseg.1.2.cells
 have a9:w.cell? ⟨a.m,9,none⟩=some (.pointer (some ⟨m0.m,0,none⟩)):=za0 hA 9 _ rfl
 obtain ⟨M0,z,hMz⟩:=zlv (m0::M) (by simp)
 have hlz:lst (m0::M) none=some (⟨z.m,0,none⟩:Addr):=by rw[hMz];exact zcl _ _ _
 have hlz2:∀ ah,lst (m0::M) ah=some (⟨z.m,0,none⟩:Addr):=by intro ah;rw[hMz];exact zcl _ _ _
 have hBc:=hseg.2.2.cells
 rw[hlz2] at hBc
 have b8:w.cell? ⟨b.m,8,none⟩=some (.pointer (some ⟨z.m,0,none⟩)):=za0 hBc 8 _ rfl
 obtain ⟨Y0,yy,hYy⟩:=zlv (b::Q) (by simp)
 have hlall:lst W none=some (⟨yy.m,0,none⟩:Addr):=by rw[hsp,zc0,zc0,hYy];exact zcl _ _ _
 have cL:w.cell? ⟨c,o+1,none⟩=some (.pointer (some ⟨yy.m,0,none⟩)):=by rw[← hlall];exact h.hdr.cellL
 have hlt:∀ x∈blks W,x<w.heap.size:=h.mlt
 have hin1:∀ x∈blks (P++[a]),x∈blks W:=fun x hx=>by rw[hbs];exact List.mem_append_left _ hx
 have hin2:∀ x∈blks (m0::M),x∈blks W:=fun x hx=>by rw[hbs];exact List.mem_append_right _ (List.mem_append_left _ hx)
 have hin3:∀ x∈blks (b::Q),x∈blks W:=fun x hx=>by rw[hbs];exact List.mem_append_right _ (List.mem_append_right _ hx)
 have hzin:z.m∈blks (m0::M):=by rw[hMz];simp[blks]
 have hm0in:m0.m∈blks (m0::M):=by simp[blks]
 have hbin:b.m∈blks (b::Q):=by simp[blks]
 have hain:a.m∈blks (P++[a]):=by simp[blks]
 have hal:a.m<w.heap.size:=hlt _ (hin1 _ hain)
 have hbl:b.m<w.heap.size:=hlt _ (hin3 _ hbin)
 have hzl:z.m<w.heap.size:=hlt _ (hin2 _ hzin)
 have hm0l:m0.m<w.heap.size:=hlt _ (hin2 _ hm0in)
 have hac0:¬ a.m=w.heap.size:=by omega
 have hac1:¬ a.m=w.heap.size+1:=by omega
 have hbc0:¬ b.m=w.heap.size:=by omega
 have hbc1:¬ b.m=w.heap.size+1:=by omega
 have hcl0:¬ c=w.heap.size:=by omega
 have hcl1:¬ c=w.heap.size+1:=by omega
 have hz0:¬ z.m=w.heap.size:=by omega
 have hz1:¬ z.m=w.heap.size+1:=by omega
 have hm00:¬ m0.m=w.heap.size:=by omega
 have hm01:¬ m0.m=w.heap.size+1:=by omega
 have hnd:=h.nodup
 rw[hbs] at hnd
 have n1:=List.nodup_append.1 hnd
 have n2:=List.nodup_append.1 n1.2.1
 have hcn:=h.out
 rw[hbs,List.mem_append,List.mem_append,not_or,not_or] at hcn
 have hm0b:(⟨m0.m,0,none⟩:Addr)≠⟨b.m,0,none⟩:=fun e=>n2.2.2 m0.m hm0in b.m hbin (by injection e)
 have hM0c:=hseg.2.1.cells
 have hpe:(binOp .eql 133 (.pointer (some ⟨m0.m,0,none⟩)) (.pointer (some ⟨b.m,0,none⟩))).run Tryz.prog (w.alloc (.cells #[.pointer none,.pointer none] 135)) = .ok (.bool false) (w.alloc (.cells #[.pointer none,.pointer none] 135)):=
  zuo _ _ _ hm0b ((Below.heap_alloc _ _ _ hm0l).trans hM0c) ((Below.heap_alloc _ _ _ hbl).trans hBc)
 obtain ⟨w2,hw2⟩:∃ w2,w2=((w.alloc (.cells #[.pointer none,.pointer none] 135)).alloc (.cells #[.pointer (some ⟨m0.m,0,none⟩),.pointer (some ⟨z.m,0,none⟩)] 135)).drew:=⟨_,rfl⟩
 have hs1:∀ ob,(w.alloc ob).heap.size=w.heap.size+1:=by intro ob;simp
 have hs2:w2.heap.size=w.heap.size+2:=by rw[hw2];simp
 have hb2:∀ x,x<w.heap.size→w2.heap[x]?=w.heap[x]?:=by
  intro x hx;rw[hw2];show ((w.alloc _).alloc _).heap[x]?=_;rw[Below.heap_alloc _ _ _ (by rw[hs1];omega),Below.heap_alloc _ _ _ hx]
 have hRN:Hid (w2.heap[w.heap.size]?=some (.cells #[.pointer none,.pointer none] 135 (0,0))):=hid (by rw[hw2];show ((w.alloc _).alloc _).heap[w.heap.size]?=_;rw[Below.heap_alloc _ _ _ (by simp)];exact za1 _ _)
 have hTN:Hid (w2.heap[w.heap.size+1]?=some (.cells #[.pointer (some ⟨m0.m,0,none⟩),.pointer (some ⟨z.m,0,none⟩)] 135 (0,0))):=hid (by rw[hw2,← hs1 (.cells #[.pointer none,.pointer none] 135)];exact za1 _ _)
 have hCh2:Ch w2 c o T cs W:=h.move (fun x hx=>hb2 x (by rcases List.mem_cons.1 hx with rfl|hx;exact hcl;exact hlt x hx))
 have hseg2:=hCh2.seg
 rw[hsp,seg_append w2 (P++[a]),seg_append w2 (m0::M)] at hseg2
 have hMseg:=hid hseg2.2.1
 have hndj:(blks ((P++[a])++b::Q)).Nodup:=by
  rw[zab,List.nodup_append]
  exact ⟨n1.1,n2.2.1,fun x hx y hy=>n1.2.2 x hx y (List.mem_append_right _ hy)⟩
 have hcnj:c ∉ blks ((P++[a])++b::Q):=by rw[zab,List.mem_append,not_or];exact ⟨hcn.1,hcn.2.2⟩
 have hJ:=hid (zf2 c o T cs _ _ (P++[a]) (b::Q) none none (hd ((m0::M)++b::Q) none) (lst (m0::M) (lst (P++[a]) none)) w2 hseg2.1 hseg2.2.2 hndj hcnj hCh2.hdr (fun h=>by simp at h) (fun h=>by simp at h))
 rw[zcl,if_neg (by simp:¬ (P++[a]=[])),if_neg (by simp:¬ (b::Q=[]))] at hJ
 have hbj:blks ((P++[a])++b::Q)=blks (P++[a])++blks (b::Q):=zab _ _
 have hNout:Hid (w.heap.size+1 ∉ c::blks ((P++[a])++b::Q)):=hid (fun hm=>by
  rw[hbj] at hm
  rcases List.mem_cons.1 hm with hm|hm
  ·omega
  ·rcases List.mem_append.1 hm with hm|hm
   ·have:=hlt _ (hin1 _ hm);omega
   ·have:=hlt _ (hin3 _ hm);omega)
 have hRout:Hid (w.heap.size ∉ c::blks ((P++[a])++b::Q)):=hid (fun hm=>by
  rw[hbj] at hm
  rcases List.mem_cons.1 hm with hm|hm
  ·omega
  ·rcases List.mem_append.1 hm with hm|hm
   ·have:=hlt _ (hin1 _ hm);omega
   ·have:=hlt _ (hin3 _ hm);omega)
 have hMlt:Hid (∀ e∈m0::M,e.m<w2.heap.size):=hid (fun e he=>by have:=hlt e.m (hin2 _ (List.mem_map.2 ⟨e,he,rfl⟩));omega)
 have hdj:Hid (∀ x∈blks (m0::M),x ∉ blks ((P++[a])++b::Q)∧x≠c):=hid (fun x hx=>⟨fun hm=>by
  rw[hbj] at hm
  rcases List.mem_append.1 hm with hm|hm
  ·exact n1.2.2 x hm x (List.mem_append_left _ hx) rfl
  ·exact n2.2.2 x hx x hm rfl,fun e=>hcn.2.1 (e ▸ hx)⟩)
 have hfirst:Hid (hd W none=hd ((P++[a])++b::Q) none):=hid (by rw[hsp,zd3,zd3];cases P <;> rfl)
 have hlast:Hid (lst W none=lst ((P++[a])++b::Q) none):=hid (by rw[hsp,zc0 (P++[a]),zc0 (m0::M),zc0 (P++[a])];rfl)
 have hMzH:=hid hMz
 have hs2H:=hid hs2
 have hw2H:=hid hw2
 have hndM:=hid n2.1
 have hndjH:=hid hndj
 have hcnjH:=hid hcnj
 have hin2H:=hid hin2
 have hltH:=hid hlt
 have hjin:Hid (∀ x∈c::blks ((P++[a])++b::Q),x∈c::blks W∨w.heap.size≤x):=hid (fun x hx=>by
  rw[hbj] at hx
  rcases List.mem_cons.1 hx with hx|hx
  ·exact .inl (by rw[hx];exact List.mem_cons_self)
  ·rcases List.mem_append.1 hx with hx|hx
   ·exact .inl (List.mem_cons_of_mem _ (hin1 _ hx))
   ·exact .inl (List.mem_cons_of_mem _ (hin3 _ hx)))
 have hf2:Hid (Fr (c::blks W) w w2):=hid (by rw[hw2];exact (((Fr.refl _ w).alloc _).alloc _).drew)
 have hzinH:=hid hzin
 have hm0inH:=hid hm0in
 have hPeq:Hid (P++a::b::Q=(P++[a])++b::Q):=hid (by simp)
 rw[hlz]
 clear hs1 hs2 hb2 hlt hCh2 hnd n1 n2 hcn hseg2 hw2 hMz hlz hlz2 hlall hseg hA hBc hM0c hYy hin1 hin2 hin3 hzin hm0in hbin hain hsp hbs hbj hWW h hm0b hndj hcnj
 go_enter Tryz.func238,Tryz.ntmps238
 go_wp2_with fail
 go_region
 all_goals go_wp2_with fail
 rw[← hw2H.out]
 refine hJ.out.mono ?_
 rintro e1 w3 ⟨rfl,hs3,hh3,hf3,hz3⟩
 have hN3:=(hf3.block (w.heap.size+1) (by have:=hs2H.out;omega) hNout.out).trans hTN.out
 have hR3:=(hf3.block w.heap.size (by have:=hs2H.out;omega) hRout.out).trans hRN.out
 have n0:w3.cell? ⟨w.heap.size+1,0,none⟩=some (.pointer (some ⟨m0.m,0,none⟩)):=za0 hN3 0 _ rfl
 have n1:w3.cell? ⟨w.heap.size+1,1,none⟩=some (.pointer (some ⟨z.m,0,none⟩)):=za0 hN3 1 _ rfl
 have hM3:=hMseg.out.move (fun e he=>hf3.block e.m (hMlt.out e he) (fun hm=>by
  have:=hdj.out e.m (List.mem_map.2 ⟨e,he,rfl⟩)
  rcases List.mem_cons.1 hm with hm|hm
  ·exact this.2 hm
  ·exact this.1 hm))
 obtain ⟨ma,mb,hm0⟩:=hM3.get m0 (by simp)
 obtain ⟨za,zb,hzb⟩:=hM3.get z (by rw[hMzH.out];simp)
 have m8:w3.cell? ⟨m0.m,8,none⟩=some (.pointer ma):=za0 hm0 8 _ rfl
 have mf:=za7 hm0
 have z9:w3.cell? ⟨z.m,9,none⟩=some (.pointer zb):=za0 hzb 9 _ rfl
 have zf:=za7 hzb
 have r0:w3.cell? ⟨w.heap.size,0,none⟩=some (.pointer none):=za0 hR3 0 _ rfl
 have r1:w3.cell? ⟨w.heap.size,1,none⟩=some (.pointer none):=za0 hR3 1 _ rfl
 have rf:=za7 hR3
 have hall:=hid (And.intro hs3 (And.intro hh3 (And.intro hf3 (And.intro hM3 (And.intro hR3 hz3)))))
 clear hs3 hh3 hf3 hz3 hN3 hR3 hM3 hm0 hzb
 go_wp2_with fail
 go_region
 go_wp2
 have hne0:¬ w.heap.size=m0.m:=fun e=>hm00 e.symm
 have hne1:¬ w.heap.size=z.m:=fun e=>hz0 e.symm
 obtain ⟨hs3,hh3,hf3,hM3,hR3,hzz⟩:=hall.out
 have hm0n:m0.m ∉ blks M:=(List.nodup_cons.1 (show (m0.m::blks M).Nodup from hndM.out)).1
 have hzn:z.m ∉ blks M0:=by
  have hx:=hndM.out
  rw[hMzH.out,zab] at hx
  intro hm;exact (List.nodup_append.1 hx).2.2 z.m hm z.m (by simp[blks]) rfl
 have hM3':Seg w3 _ (m0::M) _:=hM3
 have g1:=hM3'.zir hm0n none
 rw[hMzH.out] at g1
 have g2:=g1.zh4 hzn none
 rw[← hMzH.out] at g2
 have hdz:=hdj.out _ hzinH.out
 have hdm:=hdj.out _ hm0inH.out
 have hRM:w.heap.size ∉ blks (m0::M):=fun hm=>by have:=hltH.out _ (hin2H.out _ hm);omega
 have hRP:w.heap.size ∉ blks ((P++[a])++b::Q):=fun hm=>hRout.out (List.mem_cons_of_mem _ hm)
 have s1:=((hs3.zan ⟨m0.m,8,none⟩ hdm.1 (.pointer none)).zan ⟨z.m,9,none⟩ hdz.1 (.pointer none))
 have t1:=((hh3.other ⟨m0.m,8,none⟩ hdm.2 (.pointer none)).other ⟨z.m,9,none⟩ hdz.2 (.pointer none))
 have r1:=zan (zan hR3 ⟨m0.m,8,none⟩ hne0 (.pointer none)) ⟨z.m,9,none⟩ hne1 (.pointer none)
 have r2:=za3 (za3 (cs:=[.pointer none,.pointer none]) r1 0 (.pointer (some ⟨m0.m,0,none⟩))) 1 (.pointer (some ⟨z.m,0,none⟩))
 have y0:=za0 r2 0 _ rfl
 have y1:=za0 r2 1 _ rfl
 refine bodyPost_ret (v:=.agg #[.pointer (some ⟨m0.m,0,none⟩),.pointer (some ⟨z.m,0,none⟩)]) (by simp[results,Tryz.results238,go_sem,y0,y1]) rfl ⟨rfl,?_,?_,?_⟩
 ·rw[hPeq.out]
  refine ⟨?_,?_,hndjH.out,hcnjH.out⟩
  ·exact ((s1.zan ⟨w.heap.size,0,none⟩ hRP _).zan ⟨w.heap.size,1,none⟩ hRP _).move (fun _ _=>rfl)
  ·rw[← hfirst.out,← hlast.out]
   exact (t1.other ⟨w.heap.size,0,none⟩ (fun e=>hcl0 e.symm) _).other ⟨w.heap.size,1,none⟩ (fun e=>hcl0 e.symm) _
 ·exact ((g2.zan ⟨w.heap.size,0,none⟩ hRM _).zan ⟨w.heap.size,1,none⟩ hRM _).move (fun _ _=>rfl)
 ·have hin:∀ x∈blks (m0::M),x∈c::blks W:=fun x hx=>List.mem_cons_of_mem _ (hin2H.out x hx)
  exact (((((hf2.out.trans hf3 hjin.out).setCell ⟨m0.m,8,none⟩ (.inl (hin _ hm0inH.out)) _).setCell ⟨z.m,9,none⟩ (.inl (hin _ hzinH.out)) _).setCell ⟨w.heap.size,0,none⟩ (.inr (Nat.le_refl _)) _).setCell ⟨w.heap.size,1,none⟩ (.inr (Nat.le_refl _)) _).drew
def zdr:Nat→List Pt→List Pt
 | 0,_=>[]
 | _+1,[]=>[]
 | f+1,p::r=>if p.kind=8 then (if p.text=[] then zdr f r else match r with
   | []=>[p]
   | q::r'=>if q.kind=8 then zdr f (q.za4 (p.text++q.text)::r') else p::zdr f (q::r')) else p::zdr f r
def zfm (l:List Pt):List Pt:=zdr l.length l
def txt (l:List Pt):Nat:=(l.map (fun p=>p.text.length)).sum
theorem zl4 (f:Nat) (p:Pt) (r:List Pt) (h:¬ p.kind=8):zdr (f+1) (p::r)=p::zdr f r:=by simp only[zdr];rw[if_neg h]
theorem zqs (f:Nat) (p:Pt) (r:List Pt) (h:p.kind=8) (ht:p.text=[]):zdr (f+1) (p::r)=zdr f r:=by simp only[zdr];rw[if_pos h,if_pos ht]
theorem ztn (f:Nat) (p:Pt) (h:p.kind=8) (ht:¬ p.text=[]):zdr (f+1) [p]=[p]:=by simp only[zdr];rw[if_pos h,if_neg ht]
theorem zwt (f:Nat) (p q:Pt) (r:List Pt) (h:p.kind=8) (ht:¬ p.text=[]) (hq:q.kind=8):zdr (f+1) (p::q::r)=zdr f (q.za4 (p.text++q.text)::r):=by
 simp only[zdr];rw[if_pos h,if_neg ht,if_pos hq]
theorem zrj (f:Nat) (p q:Pt) (r:List Pt) (h:p.kind=8) (ht:¬ p.text=[]) (hq:¬ q.kind=8):zdr (f+1) (p::q::r)=p::zdr f (q::r):=by
 simp only[zdr];rw[if_pos h,if_neg ht,if_neg hq]
def Mem.za4 (e:Mem) (t:List UInt8):Mem:={ e with p:=e.p.za4 t }
theorem Seg.zin {w:World} {P R:List Mem} {e:Mem} {ah be:Option Addr} (h:Seg w ah (P++e::R) be) (hn:(blks (P++e::R)).Nodup) (t:List UInt8):Seg (w.setCell ⟨e.m,2,none⟩ (.string (S.B t))) ah (P++e.za4 t::R) be:=by
 rw[zc8] at hn
 have hd':=zpf hn
 rw[List.mem_append,not_or] at hd'
 rw[seg_append] at h ⊢
 refine ⟨h.1.zan _ hd'.2.1 _,?_,h.2.2.zan _ hd'.2.2 _⟩
 exact za3 h.2.1 2 (.string (S.B t))
theorem Ch.zin {w:World} {c o T:Nat} {cs:List Value} {P R:List Mem} {e:Mem} (h:Ch w c o T cs (P++e::R)) (t:List UInt8):Ch (w.setCell ⟨e.m,2,none⟩ (.string (S.B t))) c o T cs (P++e.za4 t::R):=by
 have hb:blks (P++e.za4 t::R)=blks (P++e::R):=by rw[zc8,zc8];rfl
 have hce:e.m≠c:=fun x=>h.out (by rw[zc8,← x];simp)
 refine ⟨h.seg.zin h.nodup t,?_,by rw[hb];exact h.nodup,by rw[hb];exact h.out⟩
 have h1:hd (P++e.za4 t::R) none=hd (P++e::R) none:=by rw[zd3,zd3];rfl
 have h2:lst (P++e.za4 t::R) none=lst (P++e::R) none:=by rw[zc0,zc0];rfl
 rw[h1,h2];exact h.hdr.other _ hce _
def From (l' l:List Mem):Prop:=∀ e'∈l',∃ e∈l,e'.m=e.m∧e'.kf=e.kf∧e'.p.kids=e.p.kids
theorem From.refl (l:List Mem):From l l:=fun e he=>⟨e,he,rfl,rfl,rfl⟩
theorem From.trans {a b c:List Mem} (h:From a b) (k:From b c):From a c:=fun e he=>by
 obtain ⟨e1,h1,h2,h3,h4⟩:=h e he
 obtain ⟨e2,k1,k2,k3,k4⟩:=k e1 h1
 exact ⟨e2,k1,h2.trans k2,h3.trans k3,h4.trans k4⟩
theorem From.blks {a b:List Mem} (h:From a b):∀ x∈blks a,x∈blks b:=fun x hx=>by
 obtain ⟨e,he,rfl⟩:=List.mem_map.1 hx
 obtain ⟨e1,h1,h2,_⟩:=h e he
 rw[h2];exact List.mem_map.2 ⟨e1,h1,rfl⟩
structure zhs (c o T:Nat) (cs:List Value) (l:List Mem) (w:World) (pre suf:List Mem) (wr:World):Prop where
 ch:Ch wr c o T cs (pre++suf)
 spec:zfm (l.map Mem.p)=pre.map Mem.p++zdr suf.length (suf.map Mem.p)
 frm:From (pre++suf) l
 bytes:txt (suf.map Mem.p)≤1000000
 fr:Fr (c::blks l) w wr
set_option maxRecDepth 100000 in
set_option maxHeartbeats 8000000 in
theorem zid (c o T:Nat) (cs:List Value) (l:List Mem) (w:World) (h:Ch w c o T cs l) (ht:txt (l.map Mem.p)≤1000000) :
  Calls Tryz.prog 164 #[.pointer (some ⟨c,o,none⟩)] w fun e w'=>∃ l',e = .returned (.tuple #[])∧Ch w' c o T cs l'∧Hid (l'.map Mem.p=zfm (l.map Mem.p))∧From l' l∧Fr (c::blks l) w w':=by
 have hF:=hid (zlc c o (.pointer (hd l none)) w h.hdr.zqh ⟨_,rfl⟩)
 have hstart:Hid (zhs c o T cs l w [] l w):=hid ⟨h,by simp[zfm],From.refl _,ht,Fr.refl _ _⟩
 clear h ht
 go_enter Tryz.func164,Tryz.ntmps164
 go_wp2_with fail
 refine hF.out.mono ?_
 rintro e w' ⟨rfl,rfl⟩
 go_wp2
 go_loopg [2,3] l.length (fun k s2 _ wr=>∃ pre suf,k=suf.length∧s2 = .pointer (hd suf none)∧zhs c o T cs l w pre suf wr)
 case atStart=>exact ⟨[],l,rfl,rfl,hstart.out⟩
 case round=>
  obtain ⟨pre,suf,rfl,rfl,hrel'⟩:=hrel
  cases suf with
  | nil=>
   have hr:=hid hrel'
   clear hrel'
   rw[show hd ([]:List Mem) none=none from rfl]
   go_wp2
   go_end0
   have h1:=hr.out
   refine ⟨pre,rfl,by simpa using h1.ch,hid ?_,by simpa using h1.frm,h1.fr⟩
   have:=h1.spec;rw[this];simp[zdr]
  | cons e r=>
   have hr:=hid hrel'
   have hseg:=hrel'.ch.seg
   rw[seg_append] at hseg
   have hE:=hseg.2.cells
   have e0:wr.cell? ⟨e.m,0,none⟩=some (.int .i64 e.p.kind):=za0 hE 0 _ rfl
   have e2:wr.cell? ⟨e.m,2,none⟩=some (.string (S.B e.p.text)):=za0 hE 2 _ rfl
   have hB:=hid (zj6 e.m (.pointer (hd r none)) wr (za0 hE 9 _ rfl) ⟨_,rfl⟩)
   have hRm:=hid (fun (wx:World) (P Q:List Mem) (a:Mem) (h:Ch wx c o T cs (P++a::Q))=>zui c o T cs P Q a wx h)
   have hsnoc:Hid (pre++e::r=(pre++[e])++r):=hid (by simp)
   clear hrel' hseg hE
   rw[show hd (e::r) none=some (⟨e.m,0,none⟩:Addr) from rfl]
   by_cases hk:e.p.kind=8
   ·have hkH:=hid hk
    rw[hk] at e0
    clear hk
    by_cases hte:e.p.text=[]
    ·have hnext:Hid (∀ w',Ch w' c o T cs (pre++r)→Fr (c::blks (pre++e::r)) wr w'→zhs c o T cs l w pre r w'):=hid (fun w' hc hf=>by
      have h1:=hr.out
      have hfrm:From (pre++r) (pre++e::r):=fun x hx=>⟨x,by rcases List.mem_append.1 hx with hx|hx;exact List.mem_append_left _ hx;exact List.mem_append_right _ (List.mem_cons_of_mem _ hx),rfl,rfl,rfl⟩
      refine ⟨hc,?_,hfrm.trans h1.frm,?_,h1.fr.trans hf (fun x hx=>.inl ?_)⟩
      ·rw[h1.spec];simp only[List.map_cons,List.length_cons];rw[zqs _ _ _ hkH.out hte]
      ·have:=h1.bytes;simp only[txt,List.map_cons,List.sum_cons] at this ⊢;omega
      ·rcases List.mem_cons.1 hx with hx|hx
       ·rw[hx];exact List.mem_cons_self
       ·exact List.mem_cons_of_mem _ (h1.frm.blks x hx))
     rw[hte] at e2
     have e2':wr.cell? ⟨e.m,2,none⟩=some (.string ⟨#[]⟩):=e2
     have hRR:=hid (hRm.out wr pre r e hr.out.ch)
     clear e2 hte
     go_wp2_with (first|(go_at_call 110;refine hB.out.mono ?_;rintro e1 w' ⟨rfl,rfl⟩)|(go_at_call 209;refine hRR.out.mono ?_;rintro e1 w3 ⟨rfl,hc3,hf3,hz3⟩))
     go_roundg r.length
     case rel=>exact ⟨pre,r,rfl,rfl,hnext.out _ hc3 hf3⟩
     case measure=>simp
    ·have htp:0<(S.B e.p.text).size:=by rw[S.zbc];exact List.length_pos_iff.2 hte
     have htn:=S.zbl _ htp
     have hte':=S.zb2 _ htp
     cases r with
     | nil=>
      have hnext:Hid (zhs c o T cs l w (pre++[e]) [] wr):=hid (by
       have h1:=hr.out
       refine ⟨by simpa using h1.ch,?_,by simpa using h1.frm,by simp[txt],h1.fr⟩
       rw[h1.spec];simp only[List.map_cons,List.map_nil,List.length_cons,List.length_nil];rw[ztn _ _ hkH.out hte];simp[zdr])
      rw[show hd ([]:List Mem) none=none from rfl] at hB
      clear hte
      go_wp2_with (go_at_call 110;refine hB.out.mono ?_;rintro e1 w' ⟨rfl,rfl⟩)
      go_roundg 0
      case rel=>exact ⟨pre++[e],[],rfl,rfl,hnext.out⟩
      case measure=>simp
     | cons q r=>
      have hseg:=hr.out.ch.seg
      rw[seg_append] at hseg
      have hQ:=hseg.2.2.cells
      have q0:wr.cell? ⟨q.m,0,none⟩=some (.int .i64 q.p.kind):=za0 hQ 0 _ rfl
      have q2:wr.cell? ⟨q.m,2,none⟩=some (.string (S.B q.p.text)):=za0 hQ 2 _ rfl
      have qf:=za7 hQ
      rw[show hd (q::r) none=some (⟨q.m,0,none⟩:Addr) from rfl] at hB
      clear hseg hQ
      by_cases hq:q.p.kind=8
      ·have hqH:=hid hq
       rw[hq] at q0
       have hcat:Hid (S.B e.p.text++S.B q.p.text=S.B (e.p.text++q.p.text)):=hid (by apply ByteArray.ext;simp[S.B])
       have hlen:(S.B e.p.text).size+(S.B q.p.text).size≤1000000:=by
        have:=hr.out.bytes;simp only[txt,List.map_cons,List.sum_cons] at this;rw[S.zbc,S.zbc];omega
       have hne:¬ e.m=q.m:=by
        have:=hr.out.ch.nodup;rw[zc8] at this
        have h2:=(List.nodup_cons.1 (List.nodup_append.1 this).2.1).1
        intro x;exact h2 (by rw[x];simp[blks])
       have hne':¬ q.m=e.m:=fun x=>hne x.symm
       have hch2:Hid (∀ wx:World,wx.heap=(wr.setCell ⟨q.m,2,none⟩ (.string (S.B (e.p.text++q.p.text)))).heap→Ch wx c o T cs (pre++e::(q.za4 (e.p.text++q.p.text)::r))):=hid (fun wx hx=>by
        have h1:=hr.out.ch
        rw[show pre++e::q::r=(pre++[e])++q::r by simp] at h1
        have h2:=h1.zin (e.p.text++q.p.text)
        rw[show (pre++[e])++q.za4 (e.p.text++q.p.text)::r=pre++e::(q.za4 (e.p.text++q.p.text)::r) by simp] at h2
        exact h2.move (fun x _=>by rw[hx]))
       have hnext:Hid (∀ w',Ch w' c o T cs (pre++q.za4 (e.p.text++q.p.text)::r)→Fr (c::blks (pre++e::(q.za4 (e.p.text++q.p.text)::r))) (wr.setCell ⟨q.m,2,none⟩ (.string (S.B (e.p.text++q.p.text)))).drew w'→zhs c o T cs l w pre (q.za4 (e.p.text++q.p.text)::r) w'):=hid (fun w' hc hf=>by
        have h1:=hr.out
        have hbb:blks (pre++e::(q.za4 (e.p.text++q.p.text)::r))=blks (pre++e::q::r):=by simp[blks,Mem.za4]
        have hfrm:From (pre++q.za4 (e.p.text++q.p.text)::r) (pre++e::q::r):=fun x hx=>by
         rcases List.mem_append.1 hx with hx|hx
         ·exact ⟨x,List.mem_append_left _ hx,rfl,rfl,rfl⟩
         ·rcases List.mem_cons.1 hx with hx|hx
          ·exact ⟨q,by simp,by rw[hx];rfl,by rw[hx];rfl,by rw[hx];rfl⟩
          ·exact ⟨x,by simp[hx],rfl,rfl,rfl⟩
        refine ⟨hc,?_,hfrm.trans h1.frm,?_,?_⟩
        ·rw[h1.spec];simp only[List.map_cons,List.length_cons];rw[zwt _ _ _ _ hkH.out hte hqH.out];rfl
        ·have:=h1.bytes
         have e1:(q.za4 (e.p.text++q.p.text)).p.text=e.p.text++q.p.text:=rfl
         simp only[txt,List.map_cons,List.sum_cons,e1,List.length_append] at this ⊢;omega
        ·have hqin:q.m∈c::blks l:=List.mem_cons_of_mem _ (h1.frm.blks q.m (by simp[blks]))
         refine ((h1.fr.setCell ⟨q.m,2,none⟩ (.inl hqin) _).drew).trans hf (fun x hx=>.inl ?_)
         rw[hbb] at hx
         rcases List.mem_cons.1 hx with hx|hx
         ·rw[hx];exact List.mem_cons_self
         ·exact List.mem_cons_of_mem _ (h1.frm.blks x hx))
       have hRR:=hid (fun wx hx=>hRm.out wx pre (q.za4 (e.p.text++q.p.text)::r) e (hch2.out wx hx))
       clear hq hte
       go_wp2_with (go_at_call 110;refine hB.out.mono ?_;rintro e1 w' ⟨rfl,rfl⟩)
       go_region
       go_wp2_with fail
       rw[hcat.out]
       refine (hRR.out (wr.setCell ⟨q.m,2,none⟩ (.string (S.B (e.p.text++q.p.text)))).drew rfl).mono ?_
       rintro e1 w3 ⟨rfl,hc3,hf3,hz3⟩
       have hN:=hid (hnext.out _ hc3 hf3)
       clear hc3 hf3 hz3
       go_wp2
       go_roundg (r.length+1)
       case rel=>exact ⟨pre,q.za4 (e.p.text++q.p.text)::r,rfl,rfl,hN.out⟩
       case measure=>simp
      ·have hqb:(q.p.kind == 8)=false:=by rw[beq_eq_false_iff_ne];exact hq
       have hnext:Hid (zhs c o T cs l w (pre++[e]) (q::r) wr):=hid (by
        have h1:=hr.out
        refine ⟨by rw[← hsnoc.out];exact h1.ch,?_,by rw[← hsnoc.out];exact h1.frm,?_,h1.fr⟩
        ·rw[h1.spec];simp only[List.map_cons,List.length_cons];rw[zrj _ _ _ _ hkH.out hte hq];simp
        ·have:=h1.bytes;simp only[txt,List.map_cons,List.sum_cons] at this ⊢;omega)
       clear hq hte
       go_wp2_with (go_at_call 110;refine hB.out.mono ?_;rintro e1 w' ⟨rfl,rfl⟩)
       go_roundg (r.length+1)
       case rel=>exact ⟨pre++[e],q::r,rfl,rfl,hnext.out⟩
       case measure=>simp
   ·have hkb:(e.p.kind == 8)=false:=by rw[beq_eq_false_iff_ne];exact hk
    have hnext:Hid (zhs c o T cs l w (pre++[e]) r wr):=hid (by
     have h1:=hr.out
     refine ⟨by rw[← hsnoc.out];exact h1.ch,?_,by rw[← hsnoc.out];exact h1.frm,?_,h1.fr⟩
     ·rw[h1.spec];simp only[List.map_cons,List.length_cons];rw[zl4 _ _ _ hk];simp
     ·have:=h1.bytes;simp only[txt,List.map_cons,List.sum_cons] at this ⊢;omega)
    clear hk
    go_wp2_with (go_at_call 110;refine hB.out.mono ?_;rintro e1 w' ⟨rfl,rfl⟩)
    go_roundg r.length
    case rel=>exact ⟨pre++[e],r,rfl,rfl,hnext.out⟩
    case measure=>simp
end Go.Proofs.YtlojgpkajkedeaaGreatDoor
