import Derived.Test.YtlojgpkajkedeaaGreatDoorNE1
import Derived.Test.YtlojgpkajkedeaaGreatDoorND3
import Derived.Test.YtlojgpkajkedeaaGreatDoorNW10
import Derived.Deep.LoopGhost
set_option maxHeartbeats 16000000
set_option maxRecDepth 100000
namespace Go.Proofs.YtlojgpkajkedeaaGreatDoor
open Go.RowKit Go.Proofs.Tryz
theorem zzo (c o T:Nat)(cs:List Value)(P M Q:List Mem)(a m0 b:Mem)(w:World)(h:Ch w c o T cs (P++a::(m0::M++b::Q))):Calls prog 238 #[.pointer (some ⟨c,o,none⟩),.pointer (some ⟨a.m,0,none⟩),.pointer (some ⟨b.m,0,none⟩)] w λe w'=>e=.returned (.agg #[.pointer (some ⟨m0.m,0,none⟩),.pointer (lst (m0::M) none)])/\Ch w' c o T cs (P++a::b::Q)/\Seg w' none (m0::M) none/\Fr (c::blks (P++a::(m0::M++b::Q))) w w':=by
 have hcl:=h.lt;obtain⟨W,tq⟩:=Qzz (P++a::(m0::M++b::Q));rw[<-tq] at h ⊢;have hsp:W=(P++[a])++((m0::M)++b::Q):=by rw[tq];simp
 have hbs:blks W=blks (P++[a])++(blks (m0::M)++blks (b::Q)):=by rw[hsp,zac (P++[a]),zac (m0::M)]
 have hseg:=h.seg;rw[hsp,seg_append,seg_append,seg_append] at hseg;have hA:=hseg.1.2.cells;have a9:w.cell? ⟨a.m,9,none⟩=some (.pointer (some ⟨m0.m,0,none⟩)):=za0 hA 9 _ rfl;obtain⟨M0,z,pz⟩:=zms (m0::M) (by simp);have hlz:lst (m0::M) none=some (⟨z.m,0,none⟩:Addr):=by rw[pz];exact zcp _ _ _
 have mq:∀ah,lst (m0::M) ah=some (⟨z.m,0,none⟩:Addr):=by intro ah;rw[pz];exact zcp _ _ _
 have qh:=hseg.2.2.cells;rw[mq] at qh;have b8:w.cell? ⟨b.m,8,none⟩=some (.pointer (some ⟨z.m,0,none⟩)):=za0 qh 8 _ rfl;obtain⟨Y0,yy,wm⟩:=zms (b::Q) (by simp);have gy:lst W none=some (⟨yy.m,0,none⟩:Addr):=by rw[hsp,zc6,zc6,wm];exact zcp _ _ _
 have cL:w.cell? ⟨c,o+1,none⟩=some (.pointer (some ⟨yy.m,0,none⟩)):=by rw[<-gy];exact h.hdr.cellL
 have hlt:∀x∈blks W,x<w.heap.size:=h.mlt;have hin1:∀x∈blks (P++[a]),x∈blks W:=λx hx=>by rw[hbs];exact List.mem_append_left _ hx
 have hin2:∀x∈blks (m0::M),x∈blks W:=λx hx=>by rw[hbs];exact List.mem_append_right _ (List.mem_append_left _ hx)
 have dx:∀x∈blks (b::Q),x∈blks W:=λx hx=>by rw[hbs];exact List.mem_append_right _ (List.mem_append_right _ hx)
 have jh:z.m∈blks (m0::M):=by rw[pz];simp[blks]
 have dh:m0.m∈blks (m0::M):=by simp[blks]
 have jq:b.m∈blks (b::Q):=by simp[blks]
 have ny:a.m∈blks (P++[a]):=by simp[blks]
 have hal:a.m<w.heap.size:=hlt _ (hin1 _ ny);have hbl:b.m<w.heap.size:=hlt _ (dx _ jq);have hzl:z.m<w.heap.size:=hlt _ (hin2 _ jh);have qp:m0.m<w.heap.size:=hlt _ (hin2 _ dh);have yw:¬a.m=w.heap.size:=by omega
 have yt:¬a.m=w.heap.size+1:=by omega
 have yj:¬b.m=w.heap.size:=by omega
 have yh:¬b.m=w.heap.size+1:=by omega
 have hcl0:¬c=w.heap.size:=by omega
 have yg:¬c=w.heap.size+1:=by omega
 have hz0:¬z.m=w.heap.size:=by omega
 have hz1:¬z.m=w.heap.size+1:=by omega
 have qx:¬m0.m=w.heap.size:=by omega
 have yc:¬m0.m=w.heap.size+1:=by omega
 have hnd:=h.nodup;rw[hbs] at hnd;have n1:=List.nodup_append.1 hnd;have n2:=List.nodup_append.1 n1.2.1;have hcn:=h.out;rw[hbs,Qbh,Qbh,not_or,not_or] at hcn;have mh:(⟨m0.m,0,none⟩:Addr)≠⟨b.m,0,none⟩:=λe=>n2.2.2 m0.m dh b.m jq (by injection e);have qg:=hseg.2.1.cells;have hpe:(binOp .eql 133 (.pointer (some ⟨m0.m,0,none⟩)) (.pointer (some ⟨b.m,0,none⟩))).run prog (w.alloc (.cells #[.pointer none,.pointer none] 135))=.ok (.bool false) (w.alloc (.cells #[.pointer none,.pointer none] 135)):=
  zyo _ _ _ mh ((Below.heap_alloc _ _ _ qp).trans qg) ((Below.heap_alloc _ _ _ hbl).trans qh)
 obtain⟨w2,hw2⟩:=Qzz (((w.alloc (.cells #[.pointer none,.pointer none] 135)).alloc (.cells #[.pointer (some ⟨m0.m,0,none⟩),.pointer (some ⟨z.m,0,none⟩)] 135)).drew);have hs1:∀ob,(w.alloc ob).heap.size=w.heap.size+1:=by intro ob;simp
 have hs2:w2.heap.size=w.heap.size+2:=by rw[hw2];simp
 have hb2:∀x,x<w.heap.size->w2.heap[x]?=w.heap[x]?:=by
  intro x hx;rw[hw2];show ((w.alloc _).alloc _).heap[x]?=_;rw[Below.heap_alloc _ _ _ (by rw[hs1];omega),Below.heap_alloc _ _ _ hx]
 have zh:Hid (w2.heap[w.heap.size]?=some (.cells #[.pointer none,.pointer none] 135 (0,0))):=hid (by rw[hw2];show ((w.alloc _).alloc _).heap[w.heap.size]?=_;rw[Below.heap_alloc _ _ _ (by simp)];exact za1 _ _);have yx:Hid (w2.heap[w.heap.size+1]?=some (.cells #[.pointer (some ⟨m0.m,0,none⟩),.pointer (some ⟨z.m,0,none⟩)] 135 (0,0))):=hid (by rw[hw2,<-hs1 (.cells #[.pointer none,.pointer none] 135)];exact za1 _ _);have jy:Ch w2 c o T cs W:=h.move (λx hx=>hb2 x (by rcases List.mem_cons.1 hx with rfl|hx;exact hcl;exact hlt x hx))
 have bg:=jy.seg;rw[hsp,seg_append w2 (P++[a]),seg_append w2 (m0::M)] at bg;have qb:=hid bg.2.1;have jk:(blks ((P++[a])++b::Q)).Nodup:=by
  rw[zac,List.nodup_append];exact⟨n1.1,n2.2.1,λx hx y hy=>n1.2.2 x hx y (List.mem_append_right _ hy)⟩
 have jm:c ∉ blks ((P++[a])++b::Q):=by rw[zac,Qbh,not_or];exact⟨hcn.1,hcn.2.2⟩
 have hJ:=hid (zf2 c o T cs _ _ (P++[a]) (b::Q) none none (hd ((m0::M)++b::Q) none) (lst (m0::M) (lst (P++[a]) none)) w2 bg.1 bg.2.2 jk jm jy.hdr (λh=>by simp at h) (λh=>by simp at h));rw[zcp,if_neg (by simp:¬(P++[a]=[])),if_neg (by simp:¬(b::Q=[]))] at hJ;have hbj:blks ((P++[a])++b::Q)=blks (P++[a])++blks (b::Q):=zac _ _;have pq:Hid (w.heap.size+1 ∉ c::blks ((P++[a])++b::Q)):=hid (λhm=>by
  rw[hbj] at hm;rcases List.mem_cons.1 hm with hm|hm
  ·omega
  ·rcases Qbh.1 hm with hm|hm
   ·have:=hlt _ (hin1 _ hm);omega
   ·have:=hlt _ (dx _ hm);omega)
 have jg:Hid (w.heap.size ∉ c::blks ((P++[a])++b::Q)):=hid (λhm=>by
  rw[hbj] at hm;rcases List.mem_cons.1 hm with hm|hm
  ·omega
  ·rcases Qbh.1 hm with hm|hm
   ·have:=hlt _ (hin1 _ hm);omega
   ·have:=hlt _ (dx _ hm);omega)
 have vv:Hid (∀e∈m0::M,e.m<w2.heap.size):=hid (λe he=>by have:=hlt e.m (hin2 _ (List.mem_map.2 ⟨e,he,rfl⟩));omega);have hdj:Hid (∀x∈blks (m0::M),x ∉ blks ((P++[a])++b::Q)/\x≠c):=hid (λx hx=>⟨λhm=>by
  rw[hbj] at hm;rcases Qbh.1 hm with hm|hm
  ·exact n1.2.2 x hm x (List.mem_append_left _ hx) rfl
  ·exact n2.2.2 x hx x hm rfl,λe=>hcn.2.1 (e▸hx)⟩)
 have jl:Hid (hd W none=hd ((P++[a])++b::Q) none):=hid (by rw[hsp,zd8,zd8];cases P<;>rfl);have hlast:Hid (lst W none=lst ((P++[a])++b::Q) none):=hid (by rw[hsp,zc6 (P++[a]),zc6 (m0::M),zc6 (P++[a])];rfl);have fq:=hid pz;have kr:=hid hs2;have qj:=hid hw2;have lq:=hid n2.1;have lg:=hid jk;have ng:=hid jm;have jd:=hid hin2;have qy:=hid hlt;have qz:Hid (∀x∈c::blks ((P++[a])++b::Q),x∈c::blks W\/w.heap.size<=x):=hid (λx hx=>by
  rw[hbj] at hx;rcases List.mem_cons.1 hx with hx|hx
  ·exact .inl (by rw[hx];exact Qx)
  ·rcases Qbh.1 hx with hx|hx
   ·exact .inl (Qo _ (hin1 _ hx))
   ·exact .inl (Qo _ (dx _ hx)))
 have hf2:Hid (Fr (c::blks W) w w2):=hid (by rw[hw2];exact(((Fr.refl _ w).alloc _).alloc _).drew);have gq:=hid jh;have dw:=hid dh;have vg:Hid (P++a::b::Q=(P++[a])++b::Q):=hid (by simp);rw[hlz];clear hs1 hs2 hb2 hlt jy hnd n1 n2 hcn bg hw2 pz hlz mq gy hseg hA qh qg wm hin1 hin2 dx jh dh jq ny hsp hbs hbj tq h mh jk jm;go_enter func238,ntmps238;go_wp2_with fail
 go_region
 all_goals go_wp2_with fail
 rw[<-qj.out];refine hJ.out.mono ?_;rintro e1 w3⟨rfl,hs3,hh3,hf3,hz3⟩;have vk:=(hf3.block (w.heap.size+1) (by have:=kr.out;omega) pq.out).trans yx.out;have jw:=(hf3.block w.heap.size (by have:=kr.out;omega) jg.out).trans zh.out;have n0:w3.cell? ⟨w.heap.size+1,0,none⟩=some (.pointer (some ⟨m0.m,0,none⟩)):=za0 vk 0 _ rfl;have n1:w3.cell? ⟨w.heap.size+1,1,none⟩=some (.pointer (some ⟨z.m,0,none⟩)):=za0 vk 1 _ rfl;have kg:=qb.out.move (λe he=>hf3.block e.m (vv.out e he) (λhm=>by
  have:=hdj.out e.m (List.mem_map.2 ⟨e,he,rfl⟩);rcases List.mem_cons.1 hm with hm|hm
  ·exact this.2 hm
  ·exact this.1 hm))
 obtain⟨ma,mb,hm0⟩:=kg.get m0 (by simp);obtain⟨za,zb,hzb⟩:=kg.get z (by rw[fq.out];simp);have m8:w3.cell? ⟨m0.m,8,none⟩=some (.pointer ma):=za0 hm0 8 _ rfl;have mf:=za7 hm0;have z9:w3.cell? ⟨z.m,9,none⟩=some (.pointer zb):=za0 hzb 9 _ rfl;have zf:=za7 hzb;have r0:w3.cell? ⟨w.heap.size,0,none⟩=some (.pointer none):=za0 jw 0 _ rfl;have r1:w3.cell? ⟨w.heap.size,1,none⟩=some (.pointer none):=za0 jw 1 _ rfl;have rf:=za7 jw;have hall:=hid (And.intro hs3 (And.intro hh3 (And.intro hf3 (And.intro kg (And.intro jw hz3)))));clear hs3 hh3 hf3 hz3 vk jw kg hm0 hzb;go_wp2_with fail
 go_region
 go_wp2;have hne0:¬w.heap.size=m0.m:=λe=>qx e.symm;have hne1:¬w.heap.size=z.m:=λe=>hz0 e.symm;obtain⟨hs3,hh3,hf3,kg,jw,hzz⟩:=hall.out;have qm:m0.m ∉ blks M:=(List.nodup_cons.1 (show (m0.m::blks M).Nodup from lq.out)).1;have hzn:z.m ∉ blks M0:=by
  have hx:=lq.out;rw[fq.out,zac] at hx;intro hm;exact(List.nodup_append.1 hx).2.2 z.m hm z.m (by simp[blks]) rfl
 have vw:Seg w3 _ (m0::M) _:=kg;have g1:=vw.zjn qm none;rw[fq.out] at g1;have g2:=g1.zhk hzn none;rw[<-fq.out] at g2;have hdz:=hdj.out _ gq.out;have wh:=hdj.out _ dw.out;have xq:w.heap.size ∉ blks (m0::M):=λhm=>by have:=qy.out _ (jd.out _ hm);omega
 have xg:w.heap.size ∉ blks ((P++[a])++b::Q):=λhm=>jg.out (Qo _ hm);have s1:=((hs3.zan ⟨m0.m,8,none⟩ wh.1 (.pointer none)).zan ⟨z.m,9,none⟩ hdz.1 (.pointer none));have t1:=((hh3.other ⟨m0.m,8,none⟩ wh.2 (.pointer none)).other ⟨z.m,9,none⟩ hdz.2 (.pointer none));have r1:=zan (zan jw ⟨m0.m,8,none⟩ hne0 (.pointer none)) ⟨z.m,9,none⟩ hne1 (.pointer none);have r2:=za3 (za3 (cs:=[.pointer none,.pointer none]) r1 0 (.pointer (some ⟨m0.m,0,none⟩))) 1 (.pointer (some ⟨z.m,0,none⟩));have y0:=za0 r2 0 _ rfl;have y1:=za0 r2 1 _ rfl;refine bodyPost_ret (v:=.agg #[.pointer (some ⟨m0.m,0,none⟩),.pointer (some ⟨z.m,0,none⟩)]) (by simp[results,results238,go_sem,y0,y1]) rfl ⟨rfl,?_,?_,?_⟩
 ·rw[vg.out];refine⟨?_,?_,lg.out,ng.out⟩
  ·exact((s1.zan ⟨w.heap.size,0,none⟩ xg _).zan ⟨w.heap.size,1,none⟩ xg _).move (λ_ _=>rfl)
  ·rw[<-jl.out,<-hlast.out];exact(t1.other ⟨w.heap.size,0,none⟩ (λe=>hcl0 e.symm) _).other ⟨w.heap.size,1,none⟩ (λe=>hcl0 e.symm) _
 ·exact((g2.zan ⟨w.heap.size,0,none⟩ xq _).zan ⟨w.heap.size,1,none⟩ xq _).move (λ_ _=>rfl)
 ·have hin:∀x∈blks (m0::M),x∈c::blks W:=λx hx=>Qo _ (jd.out x hx);exact(((((hf2.out.trans hf3 qz.out).setCell ⟨m0.m,8,none⟩ (.inl (hin _ dw.out)) _).setCell ⟨z.m,9,none⟩ (.inl (hin _ gq.out)) _).setCell ⟨w.heap.size,0,none⟩ (.inr (Qc _)) _).setCell ⟨w.heap.size,1,none⟩ (.inr (Qc _)) _).drew
def zdy:Nat->List Pt->List Pt
 | 0,_=>[]
 | _+1,[]=>[]
 | f+1,p::r=>if p.kind=8 then (if p.text=[] then zdy f r else match r with
   | []=>[p]
   | q::r'=>if q.kind=8 then zdy f (q.za4 (p.text++q.text)::r') else p::zdy f (q::r')) else p::zdy f r
def zfv (l:List Pt):List Pt:=zdy l.length l
def txt (l:List Pt):Nat:=(l.map (λp=>p.text.length)).sum
theorem zlj (f:Nat)(p:Pt)(r:List Pt)(h:¬p.kind=8):zdy (f+1) (p::r)=p::zdy f r:=by simp only[zdy];rw[if_neg h]
theorem zsc (f:Nat)(p:Pt)(r:List Pt)(h:p.kind=8)(ht:p.text=[]):zdy (f+1) (p::r)=zdy f r:=by simp only[zdy];rw[if_pos h,if_pos ht]
theorem zvk (f:Nat)(p:Pt)(h:p.kind=8)(ht:¬p.text=[]):zdy (f+1) [p]=[p]:=by simp only[zdy];rw[if_pos h,if_neg ht]
theorem zyj (f:Nat)(p q:Pt)(r:List Pt)(h:p.kind=8)(ht:¬p.text=[])(hq:q.kind=8):zdy (f+1) (p::q::r)=zdy f (q.za4 (p.text++q.text)::r):=by
 simp only[zdy];rw[if_pos h,if_neg ht,if_pos hq]
theorem zt8 (f:Nat)(p q:Pt)(r:List Pt)(h:p.kind=8)(ht:¬p.text=[])(hq:¬q.kind=8):zdy (f+1) (p::q::r)=p::zdy f (q::r):=by
 simp only[zdy];rw[if_pos h,if_neg ht,if_neg hq]
def Mem.za4 (e:Mem)(t:List UInt8):Mem:={ e with p:=e.p.za4 t }
theorem Seg.ziu {w:World}{P R:List Mem}{e:Mem}{ah be:Option Addr}(h:Seg w ah (P++e::R) be)(hn:(blks (P++e::R)).Nodup)(t:List UInt8):Seg (w.setCell ⟨e.m,2,none⟩ (.string (S.B t))) ah (P++e.za4 t::R) be:=by
 rw[zce] at hn;have hd':=zpv hn;rw[Qbh,not_or] at hd';rw[seg_append] at h ⊢;refine⟨h.1.zan _ hd'.2.1 _,?_,h.2.2.zan _ hd'.2.2 _⟩;exact za3 h.2.1 2 (.string (S.B t))
theorem Ch.ziu {w:World}{c o T:Nat}{cs:List Value}{P R:List Mem}{e:Mem}(h:Ch w c o T cs (P++e::R))(t:List UInt8):Ch (w.setCell ⟨e.m,2,none⟩ (.string (S.B t))) c o T cs (P++e.za4 t::R):=by
 have hb:blks (P++e.za4 t::R)=blks (P++e::R):=by rw[zce,zce];rfl
 have hce:e.m≠c:=λx=>h.out (by rw[zce,<-x];simp);refine⟨h.seg.ziu h.nodup t,?_,by rw[hb];exact h.nodup,by rw[hb];exact h.out⟩;have h1:hd (P++e.za4 t::R) none=hd (P++e::R) none:=by rw[zd8,zd8];rfl
 have h2:lst (P++e.za4 t::R) none=lst (P++e::R) none:=by rw[zc6,zc6];rfl
 rw[h1,h2];exact h.hdr.other _ hce _
def From (l' l:List Mem):Prop:=∀e'∈l',∃e∈l,e'.m=e.m/\e'.kf=e.kf/\e'.p.kids=e.p.kids
theorem From.refl (l:List Mem):From l l:=λe he=>⟨e,he,rfl,rfl,rfl⟩
theorem From.trans {a b c:List Mem}(h:From a b)(k:From b c):From a c:=λe he=>by
 obtain⟨e1,h1,h2,h3,h4⟩:=h e he;obtain⟨e2,k1,k2,k3,k4⟩:=k e1 h1;exact⟨e2,k1,h2.trans k2,h3.trans k3,h4.trans k4⟩
theorem From.blks {a b:List Mem}(h:From a b):∀x∈blks a,x∈blks b:=λx hx=>by
 obtain⟨e,he,rfl⟩:=List.mem_map.1 hx;obtain⟨e1,h1,h2,_⟩:=h e he;rw[h2];exact List.mem_map.2 ⟨e1,h1,rfl⟩
structure zi9 (c o T:Nat)(cs:List Value)(l:List Mem)(w:World)(pre suf:List Mem)(wr:World):Prop where
 ch:Ch wr c o T cs (pre++suf)
 spec:zfv (l.map Mem.p)=pre.map Mem.p++zdy suf.length (suf.map Mem.p)
 frm:From (pre++suf) l
 bytes:txt (suf.map Mem.p)<=1000000
 fr:Fr (c::blks l) w wr
theorem zj8 (c o T:Nat)(cs:List Value)(l:List Mem)(w:World)(h:Ch w c o T cs l)(ht:txt (l.map Mem.p)<=1000000):Calls prog 164 #[.pointer (some ⟨c,o,none⟩)] w λe w'=>∃l',e=.returned (.tuple #[])/\Ch w' c o T cs l'/\Hid (l'.map Mem.p=zfv (l.map Mem.p))/\From l' l/\Fr (c::blks l) w w':=by
 have hF:=hid (zir c o (.pointer (hd l none)) w h.hdr.zt5 ⟨_,rfl⟩);have hstart:Hid (zi9 c o T cs l w [] l w):=hid ⟨h,by simp[zfv],From.refl _,ht,Fr.refl _ _⟩;clear h ht;go_enter func164,ntmps164;go_wp2_with fail
 refine hF.out.mono ?_;rintro e w'⟨rfl,rfl⟩;go_wp2;go_loopg [2,3] l.length (λk s2 _ wr=>∃pre suf,k=suf.length/\s2=.pointer (hd suf none)/\zi9 c o T cs l w pre suf wr)
 case atStart=>exact⟨[],l,rfl,rfl,hstart.out⟩
 case round=>
  obtain⟨pre,suf,rfl,rfl,hrel'⟩:=hrel;cases suf with
  | nil=>
   have hr:=hid hrel';clear hrel';rw[show hd ([]:List Mem) none=none from rfl];go_wp2;go_end0;have h1:=hr.out;refine⟨pre,rfl,by simpa using h1.ch,hid ?_,by simpa using h1.frm,h1.fr⟩;have:=h1.spec;rw[this];simp[zdy]
  | cons e r=>
   have hr:=hid hrel';have hseg:=hrel'.ch.seg;rw[seg_append] at hseg;have hE:=hseg.2.cells;have e0:wr.cell? ⟨e.m,0,none⟩=some (.int .i64 e.p.kind):=za0 hE 0 _ rfl;have e2:wr.cell? ⟨e.m,2,none⟩=some (.string (S.B e.p.text)):=za0 hE 2 _ rfl;have hB:=hid (zdq e.m (.pointer (hd r none)) wr (za0 hE 9 _ rfl) ⟨_,rfl⟩);have gy:=hid (λ(wx:World) (P Q:List Mem) (a:Mem) (h:Ch wx c o T cs (P++a::Q))=>zw9 c o T cs P Q a wx h);have bg:Hid (pre++e::r=(pre++[e])++r):=hid (by simp);clear hrel' hseg hE;rw[show hd (e::r) none=some (⟨e.m,0,none⟩:Addr) from rfl];by_cases hk:e.p.kind=8
   ·have dw:=hid hk;rw[hk] at e0;clear hk;by_cases hte:e.p.text=[]
    ·have hnext:Hid (∀w',Ch w' c o T cs (pre++r)->Fr (c::blks (pre++e::r)) wr w'->zi9 c o T cs l w pre r w'):=hid (λw' hc hf=>by
      have h1:=hr.out;have dh:From (pre++r) (pre++e::r):=λx hx=>⟨x,by rcases Qbh.1 hx with hx|hx;exact List.mem_append_left _ hx;exact List.mem_append_right _ (Qo _ hx),rfl,rfl,rfl⟩
      refine⟨hc,?_,dh.trans h1.frm,?_,h1.fr.trans hf (λx hx=>.inl ?_)⟩
      ·rw[h1.spec];simp only[Qs,Qd];rw[zsc _ _ _ dw.out hte]
      ·have:=h1.bytes;simp only[txt,Qs,List.sum_cons] at this ⊢;omega
      ·rcases List.mem_cons.1 hx with hx|hx
       ·rw[hx];exact Qx
       ·exact Qo _ (h1.frm.blks x hx))
     rw[hte] at e2;have e2':wr.cell? ⟨e.m,2,none⟩=some (.string ⟨#[]⟩):=e2;have hRR:=hid (gy.out wr pre r e hr.out.ch);clear e2 hte;go_wp2_with (first|(go_at_call 110;refine hB.out.mono ?_;rintro e1 w'⟨rfl,rfl⟩)|(go_at_call 209;refine hRR.out.mono ?_;rintro e1 w3⟨rfl,hc3,hf3,hz3⟩))
     go_roundg r.length
     case rel=>exact⟨pre,r,rfl,rfl,hnext.out _ hc3 hf3⟩
     case measure=>simp
    ·have htp:0<(S.B e.p.text).size:=(by rw[S.zav];exact Qbf.2 hte);have htn:=S.zbo _ htp;have jd:=S.zb6 _ htp;cases r with
     | nil=>
      have hnext:Hid (zi9 c o T cs l w (pre++[e]) [] wr):=hid (by
       have h1:=hr.out;refine⟨by simpa using h1.ch,?_,by simpa using h1.frm,by simp[txt],h1.fr⟩;rw[h1.spec];simp only[Qs,List.map_nil,Qd,Qi];rw[zvk _ _ dw.out hte];simp[zdy])
      rw[show hd ([]:List Mem) none=none from rfl] at hB;clear hte;go_wp2_with (go_at_call 110;refine hB.out.mono ?_;rintro e1 w'⟨rfl,rfl⟩)
      go_roundg 0
      case rel=>exact⟨pre++[e],[],rfl,rfl,hnext.out⟩
      case measure=>simp
     | cons q r=>
      have hseg:=hr.out.ch.seg;rw[seg_append] at hseg;have hQ:=hseg.2.2.cells;have q0:wr.cell? ⟨q.m,0,none⟩=some (.int .i64 q.p.kind):=za0 hQ 0 _ rfl;have q2:wr.cell? ⟨q.m,2,none⟩=some (.string (S.B q.p.text)):=za0 hQ 2 _ rfl;have qf:=za7 hQ;rw[show hd (q::r) none=some (⟨q.m,0,none⟩:Addr) from rfl] at hB;clear hseg hQ;by_cases hq:q.p.kind=8
      ·have jg:=hid hq;rw[hq] at q0;have gq:Hid (S.B e.p.text++S.B q.p.text=S.B (e.p.text++q.p.text)):=hid (by apply ByteArray.ext;simp[S.B]);have hlen:(S.B e.p.text).size+(S.B q.p.text).size<=1000000:=by
        have:=hr.out.bytes;simp only[txt,Qs,List.sum_cons] at this;rw[S.zav,S.zav];omega
       have hne:¬e.m=q.m:=by
        have:=hr.out.ch.nodup;rw[zce] at this;have h2:=(List.nodup_cons.1 (List.nodup_append.1 this).2.1).1;intro x;exact h2 (by rw[x];simp[blks])
       have hne':¬q.m=e.m:=λx=>hne x.symm;have fq:Hid (∀wx:World,wx.heap=(wr.setCell ⟨q.m,2,none⟩ (.string (S.B (e.p.text++q.p.text)))).heap->Ch wx c o T cs (pre++e::(q.za4 (e.p.text++q.p.text)::r))):=hid (λwx hx=>by
        have h1:=hr.out.ch;rw[show pre++e::q::r=(pre++[e])++q::r by simp] at h1;have h2:=h1.ziu (e.p.text++q.p.text);rw[show (pre++[e])++q.za4 (e.p.text++q.p.text)::r=pre++e::(q.za4 (e.p.text++q.p.text)::r) by simp] at h2;exact h2.move (λx _=>by rw[hx]))
       have hnext:Hid (∀w',Ch w' c o T cs (pre++q.za4 (e.p.text++q.p.text)::r)->Fr (c::blks (pre++e::(q.za4 (e.p.text++q.p.text)::r))) (wr.setCell ⟨q.m,2,none⟩ (.string (S.B (e.p.text++q.p.text)))).drew w'->zi9 c o T cs l w pre (q.za4 (e.p.text++q.p.text)::r) w'):=hid (λw' hc hf=>by
        have h1:=hr.out;have hbb:blks (pre++e::(q.za4 (e.p.text++q.p.text)::r))=blks (pre++e::q::r):=(by simp[blks,Mem.za4]);have dh:From (pre++q.za4 (e.p.text++q.p.text)::r) (pre++e::q::r):=λx hx=>by
         rcases Qbh.1 hx with hx|hx
         ·exact⟨x,List.mem_append_left _ hx,rfl,rfl,rfl⟩
         ·rcases List.mem_cons.1 hx with hx|hx
          ·exact⟨q,by simp,by rw[hx];rfl,by rw[hx];rfl,by rw[hx];rfl⟩
          ·exact⟨x,by simp[hx],rfl,rfl,rfl⟩
        refine⟨hc,?_,dh.trans h1.frm,?_,?_⟩
        ·rw[h1.spec];simp only[Qs,Qd];rw[zyj _ _ _ _ dw.out hte jg.out];rfl
        ·have:=h1.bytes;have e1:(q.za4 (e.p.text++q.p.text)).p.text=e.p.text++q.p.text:=rfl;simp only[txt,Qs,List.sum_cons,e1,Qa] at this ⊢;omega
        ·have dx:q.m∈c::blks l:=Qo _ (h1.frm.blks q.m (by simp[blks]));refine((h1.fr.setCell ⟨q.m,2,none⟩ (.inl dx) _).drew).trans hf (λx hx=>.inl ?_);rw[hbb] at hx;rcases List.mem_cons.1 hx with hx|hx
         ·rw[hx];exact Qx
         ·exact Qo _ (h1.frm.blks x hx))
       have hRR:=hid (λwx hx=>gy.out wx pre (q.za4 (e.p.text++q.p.text)::r) e (fq.out wx hx));clear hq hte;go_wp2_with (go_at_call 110;refine hB.out.mono ?_;rintro e1 w'⟨rfl,rfl⟩)
       go_region
       go_wp2_with (fail);rw[gq.out];refine(hRR.out (wr.setCell ⟨q.m,2,none⟩ (.string (S.B (e.p.text++q.p.text)))).drew rfl).mono ?_;rintro e1 w3⟨rfl,hc3,hf3,hz3⟩;have hN:=hid (hnext.out _ hc3 hf3);clear hc3 hf3 hz3;go_wp2;go_roundg (r.length+1)
       case rel=>exact⟨pre,q.za4 (e.p.text++q.p.text)::r,rfl,rfl,hN.out⟩
       case measure=>simp
      ·have jh:(q.p.kind == 8)=false:=(by rw[Qe];exact hq);have hnext:Hid (zi9 c o T cs l w (pre++[e]) (q::r) wr):=hid (by
        have h1:=hr.out;refine⟨by rw[<-bg.out];exact h1.ch,?_,by rw[<-bg.out];exact h1.frm,?_,h1.fr⟩
        ·rw[h1.spec];simp only[Qs,Qd];rw[zt8 _ _ _ _ dw.out hte hq];simp
        ·have:=h1.bytes;simp only[txt,Qs,List.sum_cons] at this ⊢;omega)
       clear hq hte;go_wp2_with (go_at_call 110;refine hB.out.mono ?_;rintro e1 w'⟨rfl,rfl⟩)
       go_roundg (r.length+1)
       case rel=>exact⟨pre++[e],q::r,rfl,rfl,hnext.out⟩
       case measure=>simp
   ·have hkb:(e.p.kind == 8)=false:=(by rw[Qe];exact hk);have hnext:Hid (zi9 c o T cs l w (pre++[e]) r wr):=hid (by
     have h1:=hr.out;refine⟨by rw[<-bg.out];exact h1.ch,?_,by rw[<-bg.out];exact h1.frm,?_,h1.fr⟩
     ·rw[h1.spec];simp only[Qs,Qd];rw[zlj _ _ _ hk];simp
     ·have:=h1.bytes;simp only[txt,Qs,List.sum_cons] at this ⊢;omega)
    clear hk;go_wp2_with (go_at_call 110;refine hB.out.mono ?_;rintro e1 w'⟨rfl,rfl⟩)
    go_roundg r.length
    case rel=>exact⟨pre++[e],r,rfl,rfl,hnext.out⟩
    case measure=>simp
def opens (s p:Pt):Bool:=p.ro&&(!p.text.isEmpty&&(decide (p.text.head?=s.text.head?)&&S.fits p.rs p.rc s.rs s.ro))
theorem z1p (t:List UInt8)(h:0<(S.B t).size):t.head?=some (S.B t)[0]:=by
 have:=S.zad (S.B t) 0 h;rw[S.zaz] at this;rw[List.head?_eq_getElem?];exact this
structure Bk (wr:World) where
 w:World
 h:Below wr.heap.size wr w
theorem zar {P:Program}{id:Nat}{Q:Exit->Act->World->Prop}{a:Act}{w:World}{l:List Oper}(hm:P.follows .mixedOrders=true)(hB:Region.lexB .any l.toArray=true)
  (h:wpQuiet P l.toArray (λw'=>∃k:Bk w,w'=k.w) (λa'=>∀w',(∃k:Bk w,w'=k.w)->Q .normal a' w') l a):(Code.region id l.toArray true).wp P Q a w:=
 wp_region_quiet (C:=λw'=>∃k:Bk w,w'=k.w) hm hB ⟨⟨w.drew,(Below.refl _ _).drew⟩,rfl⟩ (by simpa using h)
theorem zra (L R:List Mem)(s:Mem)(w:World)(h:Seg w none (L++s::R) none)(hst:s.p.text≠[])(hrs:∀x∈L++s::R,x.p.rs<=1000000):Calls prog 207 #[.pointer (some ⟨s.m,0,none⟩)] w λe w'=>∃r,e=.returned (.pointer r)/\Below w.heap.size w w'/\Hid ((r=none/\∀x∈L,opens s.p x.p=false)\/∃L1 x M,L=L1++x::M/\r=some x.ad/\opens s.p x.p=true/\∀y∈M,opens s.p y.p=false):=by
 have hlt:∀x∈L++s::R,x.m<w.heap.size:=λx hx=>h.lt x hx;have hseg:=(seg_append _ _ _ _ _).1 h;have hS:=hseg.2.cells;have kr:=hid (zqm s.m (lst L none) w (za0 hS 8 _ rfl));have kg:=hid hS;have fq:=hid hseg.1;have jl:=hid hlt;have jk:=hid hrs;have hsl:s.m<w.heap.size:=hlt s (by simp);have hstp:0<(S.B s.p.text).size:=by rw[S.zav];exact Qbf.2 hst
 have jw:=z1p s.p.text hstp;have jm:=hid jw;have jh:s.p.rs<=1000000:=hrs s (by simp);clear h hlt hseg hS hst hrs jw;go_enter func207,ntmps207;go_wp2_with fail
 refine kr.out.mono ?_;rintro e w'⟨rfl,rfl⟩;go_wp2;go_loopg [3] L.length (λk s3 wr=>∃A M,L=A++M/\k=A.length/\s3=.pointer (lst A none)/\(∀x∈M,opens s.p x.p=false)/\Below w.heap.size w wr)
 case atStart=>exact⟨L,[],by simp,rfl,rfl,by simp,Below.refl _ _⟩
 case round=>
  obtain⟨A,M,jd,rfl,rfl,hM,hb⟩:=hrel;have dh:=hid hb;have jq:=hid hM;have gy:=hid jd;have hzb:w.heap.size<=wr.heap.size:=hb.size;by_cases hA:A=[]
  ·subst hA;clear hb hM jd;rw[show lst ([]:List Mem) none=none from rfl];go_wp2;go_ret;exact⟨none,rfl,dh.out,hid (.inl ⟨rfl,by rw[gy.out];exact jq.out⟩)⟩
  ·obtain⟨A0,x,rfl⟩:=zms A hA;have dw:x∈L:=by rw[jd];simp
   have hxl:x.m<w.heap.size:=jl.out x (List.mem_append_left _ dw);have hX:w.heap[x.m]?=some (.cells (zcz x (lst A0 none) (hd M (some s.ad))).toArray 179 (0,0)):=by
    have h1:=fq.out;rw[jd,seg_append,seg_append] at h1;exact h1.1.2.cells
   have gq:=(hb.block x.m hxl).trans hX;have hSr:=(hb.block s.m hsl).trans kg.out;have x2:wr.cell? ⟨x.m,2,none⟩=some (.string (S.B x.p.text)):=za0 gq 2 _ rfl;have x5:wr.cell? ⟨x.m,5,none⟩=some (.int .i64 (x.p.rs:Nat)):=za0 gq 5 _ rfl;have x6:wr.cell? ⟨x.m,6,none⟩=some (.bool x.p.ro):=za0 gq 6 _ rfl;have x7:wr.cell? ⟨x.m,7,none⟩=some (.bool x.p.rc):=za0 gq 7 _ rfl;have s2:wr.cell? ⟨s.m,2,none⟩=some (.string (S.B s.p.text)):=za0 hSr 2 _ rfl;have s5:wr.cell? ⟨s.m,5,none⟩=some (.int .i64 (s.p.rs:Nat)):=za0 hSr 5 _ rfl;have s6:wr.cell? ⟨s.m,6,none⟩=some (.bool s.p.ro):=za0 hSr 6 _ rfl;have s7:wr.cell? ⟨s.m,7,none⟩=some (.bool s.p.rc):=za0 hSr 7 _ rfl;have hAx:=hid (λ(wx:World) (hx:Below w.heap.size w wx)=>zqm x.m (lst A0 none) wx (za0 ((hx.block x.m hxl).trans hX) 8 _ rfl));have jg:x.p.rs<=1000000:=jk.out x (List.mem_append_left _ dw);have hfit:=hid (λ(wx:World)=>z2d x.p.rs s.p.rs x.p.ro x.p.rc s.p.ro s.p.rc wx jg jh);have hno:Hid (opens s.p x.p=false->∀y∈x::M,opens s.p y.p=false):=hid (λh1 y hy=>by
    rcases List.mem_cons.1 hy with rfl|hy
    ·exact h1
    ·exact jq.out y hy)
   have bg:Hid (L=A0++x::M):=hid (by rw[gy.out];simp);rw[zcp,show (some x.ad:Option Addr)=some (⟨x.m,0,none⟩:Addr) from rfl];clear hb hM jd hX gq hSr hA dw;cases hro:x.p.ro
   ·have hop:Hid (opens s.p x.p=false):=hid (by unfold opens;rw[hro];rfl);rw[hro] at x6;clear hro;go_wp2_with (fail);go_quiet (fail)
    go_wp2_with (fail);refine(hAx.out _ (below_drewN dh.out _)).mono ?_;rintro e1 w'⟨rfl,rfl⟩;go_wp2;go_roundg A0.length
    case rel=>exact⟨A0,x::M,bg.out,rfl,rfl,hno.out hop.out,below_drewN dh.out _⟩
    case measure=>simp
   ·rw[hro] at x6 hfit;by_cases hte:x.p.text=[]
    ·have hop:Hid (opens s.p x.p=false):=hid (by unfold opens;rw[hte];simp);rw[hte] at x2;have x2':wr.cell? ⟨x.m,2,none⟩=some (.string ⟨#[]⟩):=x2;clear hro x2 hte;go_wp2_with (fail);go_quiet (fail)
     go_wp2_with (fail);refine(hAx.out _ (below_drewN dh.out _)).mono ?_;rintro e1 w'⟨rfl,rfl⟩;go_wp2;go_roundg A0.length
     case rel=>exact⟨A0,x::M,bg.out,rfl,rfl,hno.out hop.out,below_drewN dh.out _⟩
     case measure=>simp
    ·have hxp:0<(S.B x.p.text).size:=(by rw[S.zav];exact Qbf.2 hte);have hhx:=z1p x.p.text hxp;have htn:=S.zbo _ hxp;have jy:=S.zb6 _ hxp;have dx:Hid (opens s.p x.p=(decide ((S.B x.p.text)[0]=(S.B s.p.text)[0])&&S.fits x.p.rs x.p.rc s.p.rs s.p.ro)):=hid (by
      unfold opens;rw[hro,hhx,jm.out];have:x.p.text.isEmpty=false:=(by simpa using hte);rw[this];simp)
     clear hte hhx;by_cases heq:(S.B x.p.text)[0]=(S.B s.p.text)[0]
     ·have hnb:((((S.B x.p.text)[0].toNat:Nat):Int) == (((S.B s.p.text)[0].toNat:Nat):Int))=true:=by
       rw[heq,beq_iff_eq]
      haveI hNE:Nonempty (Bk wr):=⟨⟨wr,Below.refl _ _⟩⟩;have X2:∀k:Bk wr,k.w.cell? ⟨x.m,2,none⟩=some (.string (S.B x.p.text)):=λk=>(k.h.cell (p:=⟨x.m,2,none⟩) (by show x.m<_;omega)).trans x2;have X5:∀k:Bk wr,k.w.cell? ⟨x.m,5,none⟩=some (.int .i64 (x.p.rs:Nat)):=λk=>(k.h.cell (p:=⟨x.m,5,none⟩) (by show x.m<_;omega)).trans x5;have X6:∀k:Bk wr,k.w.cell? ⟨x.m,6,none⟩=some (.bool true):=λk=>(k.h.cell (p:=⟨x.m,6,none⟩) (by show x.m<_;omega)).trans x6;have X7:∀k:Bk wr,k.w.cell? ⟨x.m,7,none⟩=some (.bool x.p.rc):=λk=>(k.h.cell (p:=⟨x.m,7,none⟩) (by show x.m<_;omega)).trans x7;have S2:∀k:Bk wr,k.w.cell? ⟨s.m,2,none⟩=some (.string (S.B s.p.text)):=λk=>(k.h.cell (p:=⟨s.m,2,none⟩) (by show s.m<_;omega)).trans s2;have S5:∀k:Bk wr,k.w.cell? ⟨s.m,5,none⟩=some (.int .i64 (s.p.rs:Nat)):=λk=>(k.h.cell (p:=⟨s.m,5,none⟩) (by show s.m<_;omega)).trans s5;have S6:∀k:Bk wr,k.w.cell? ⟨s.m,6,none⟩=some (.bool s.p.ro):=λk=>(k.h.cell (p:=⟨s.m,6,none⟩) (by show s.m<_;omega)).trans s6;have S7:∀k:Bk wr,k.w.cell? ⟨s.m,7,none⟩=some (.bool s.p.rc):=λk=>(k.h.cell (p:=⟨s.m,7,none⟩) (by show s.m<_;omega)).trans s7;cases hfv:S.fits x.p.rs x.p.rc s.p.rs s.p.ro
      ·have hop:Hid (opens s.p x.p=false):=hid (by rw[dx.out,hfv,Bool.and_false]);rw[hfv] at hfit;clear heq hro hfv;go_wp2_with (fail);refine zar (by kernel_rfl) (by kernel_rfl) ?_;repeat (go_big_quiet_step ((rename_i kk;exact(hfit.out kk.w).mono (λe w' h=>⟨h.1,⟨w',kk.h.trans (h.2.mono kk.h.size)⟩,rfl⟩))))
       refine wpQuiet_nil ?_;intro _ hw';obtain⟨kq,hw''⟩:=hw';subst hw'';go_wp2_with (fail);refine(hAx.out _ (dh.out.trans (kq.h.mono hzb))).mono ?_;rintro e1 w'⟨rfl,rfl⟩;go_wp2;go_roundg A0.length
       case rel=>exact⟨A0,x::M,bg.out,rfl,rfl,hno.out hop.out,dh.out.trans (kq.h.mono hzb)⟩
       case measure=>simp
      ·have hop:Hid (opens s.p x.p=true):=hid (by rw[dx.out,hfv,decide_eq_true heq];rfl);rw[hfv] at hfit;clear heq hro hfv;go_wp2_with (fail);refine zar (by kernel_rfl) (by kernel_rfl) ?_;repeat (go_big_quiet_step ((rename_i kk;exact(hfit.out kk.w).mono (λe w' h=>⟨h.1,⟨w',kk.h.trans (h.2.mono kk.h.size)⟩,rfl⟩))))
       refine wpQuiet_nil ?_;intro _ hw';obtain⟨kq,hw''⟩:=hw';subst hw'';go_wp2;go_ret;exact⟨some x.ad,rfl,dh.out.trans (kq.h.mono hzb),hid (.inr ⟨A0,x,M,bg.out,rfl,hop.out,jq.out⟩)⟩
     ·have hop:Hid (opens s.p x.p=false):=hid (by rw[dx.out,decide_eq_false heq];rfl);have hnb:((((S.B x.p.text)[0].toNat:Nat):Int) == (((S.B s.p.text)[0].toNat:Nat):Int))=false:=by
       rw[Qe];intro e;exact heq (Qk.1 (by omega))
      clear heq hro;go_wp2_with (fail);go_quiet (fail)
      go_wp2_with (fail);refine(hAx.out _ (below_drewN dh.out _)).mono ?_;rintro e1 w'⟨rfl,rfl⟩;go_wp2;go_roundg A0.length
      case rel=>exact⟨A0,x::M,bg.out,rfl,rfl,hno.out hop.out,below_drewN dh.out _⟩
      case measure=>simp
end Go.Proofs.YtlojgpkajkedeaaGreatDoor
