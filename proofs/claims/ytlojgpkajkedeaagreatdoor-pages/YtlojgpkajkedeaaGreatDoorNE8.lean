import Derived.Test.YtlojgpkajkedeaaGreatDoorNE5
set_option maxHeartbeats 16000000
set_option maxRecDepth 100000
namespace Go.Proofs.YtlojgpkajkedeaaGreatDoor
open Go.RowKit Go.Proofs.Tryz
theorem zzl (c o T:Nat)(cs:List Value)(P M Q:List Mem)(a b:Mem)(w:World)(h:Ch w c o T cs (P++a::(M++b::Q))):Calls prog 238 #[.pointer (some ⟨c,o,none⟩),.pointer (some ⟨a.m,0,none⟩),.pointer (some ⟨b.m,0,none⟩)] w λe w'=>e=.returned (.agg #[.pointer (hd M none),.pointer (lst M none)])/\Ch w' c o T cs (P++a::b::Q)/\Seg w' none M none/\Fr (c::blks (P++a::(M++b::Q))) w w':=by
 cases M with
 | nil=>
  have hseg:=h.seg;rw[seg_append] at hseg;refine(zq5 c o a (b::Q) w (za0 hseg.2.cells 9 _ rfl) (h.mlt a.m (by simp[blks]))).mono ?_;rintro e w'⟨rfl,hb⟩;refine⟨rfl,h.move (λx hx=>hb.block x (by rcases List.mem_cons.1 hx with rfl|hx;exact h.lt;exact h.mlt x hx)),trivial,Fr.zii hb⟩
 | cons m0 M=>
  refine(zzo c o T cs P M Q a m0 b w h).mono ?_;rintro e w'⟨rfl,h1,h2,h3⟩;exact⟨rfl,h1,h2,h3⟩
theorem zi3 {w:World}{A:Nat->Prop}{l:List Mem}{ah:Option Addr}(h:Seg w ah l none)(hA:∀e∈l,A e.m)(hk:∀e∈l,KRep w A e.kf e.p.kids):KRep w A (hd l none) (l.map Mem.p):=by
 induction l generalizing ah with
 | nil=>exact .nil
 | cons e r ih=>exact .cons e ah (hd r none) (r.map Mem.p) (hA e (by simp)) h.1 (hk e (by simp)) (ih h.2 (λx hx=>hA x (by simp[hx])) (λx hx=>hk x (by simp[hx])))
def Kd (w:World)(A:Nat->Prop)(l:List Mem):Prop:=∀e∈l,KRep w A e.kf e.p.kids
def zch (a b:Pt):Nat:=if 1<a.text.length/\1<b.text.length then 2 else 1
def zhs (z:Nat)(m:List Pt):Pt:=.mk (if z=2 then 15 else 14) [] [] (zfv m) 0 false false
theorem z1v (t:List UInt8)(z:Nat):(S.B t).extract z (S.B t).size=S.B (t.drop z):=by
 rw[<-S.zbp ((S.B t).extract z (S.B t).size),S.zbf,S.zaz]
structure zt3 (c o T:Nat)(cs:List Value)(P M Q:List Mem)(a b:Mem)(z:Nat)(A:Nat->Prop)(w:World)(n:Mem)(w':World):Prop where
 ch:Ch w' c o T cs (P++a.za4 (a.p.text.drop z)::n::b.za4 (b.p.text.drop z)::Q)
 part:n.p=zhs z (M.map Mem.p)
 new:w.heap.size<=n.m
 kids:Kd w' (λx=>A x\/x∈blks M) (P++a.za4 (a.p.text.drop z)::n::b.za4 (b.p.text.drop z)::Q)
 fr:Fr (c::blks (P++a::(M++b::Q))) w w'
theorem zo3 (e:Mem)(r:List Mem):blks (e::r)=e.m::blks r:=rfl
theorem outM {w:World}{c o T:Nat}{cs:List Value}{P M Q:List Mem}{a b:Mem}{ta tb:List UInt8}(h:Ch w c o T cs (P++a::(M++b::Q)))(x:Nat)(hx:x∈blks M):¬x∈c::blks (P++a.za4 ta::b.za4 tb::Q):=λhm=>by
 have hc:=h.out;have hn:=h.nodup;rw[zce,zac,zo3] at hc hn;have hm':x=c\/x∈blks P\/x=a.m\/x=b.m\/x∈blks Q:=by
  rcases List.mem_cons.1 hm with hm|hm
  ·exact .inl hm
  ·rw[zce,zo3] at hm;simp only[Qbh,List.mem_cons] at hm;rcases hm with hm|hm|hm|hm
   ·exact .inr (.inl hm)
   ·exact .inr (.inr (.inl hm))
   ·exact .inr (.inr (.inr (.inl hm)))
   ·exact .inr (.inr (.inr (.inr hm)))
 have n1:=List.nodup_append.1 hn;have n2:=List.nodup_cons.1 n1.2.1;have n3:=List.nodup_append.1 n2.2;rcases hm' with e|e|e|e|e
 ·exact hc (by rw[<-e];simp[hx])
 ·exact n1.2.2 x e x (by simp[hx]) rfl
 ·exact n2.1 (by rw[<-e];simp[hx])
 ·exact n3.2.2 x hx b.m (by simp) e
 ·exact n3.2.2 x hx x (by simp[e]) rfl
theorem zk8 {c o T N:Nat}{cs:List Value}{P M Q M':List Mem}{a b:Mem}{z:Nat}{A:Nat->Prop}{w w2 w3 w5 w6:World}{kf kl:Option Addr}
  (h:Ch w c o T cs (P++a::(M++b::Q))) (hk:Kd w A (P++a::(M++b::Q))) (hA:∀x,A x->x<w.heap.size/\x ∉ c::blks (P++a::(M++b::Q)))
  (h2:w2=(w.setCell ⟨a.m,2,none⟩ (.string (S.B (a.p.text.drop z)))).setCell ⟨b.m,2,none⟩ (.string (S.B (b.p.text.drop z))))
  (f3:Fr (c::blks (P++a.za4 (a.p.text.drop z)::(M++b.za4 (b.p.text.drop z)::Q))) w2 w3) (hN:N=w3.heap.size) (f5:Fr (N::blks M) w3 w5) (hfrom:From M' M) (hs5:Seg w5 none M' none) (hp5:M'.map Mem.p=zfv (M.map Mem.p))
  (f6:Fr (c::blks (P++a.za4 (a.p.text.drop z)::b.za4 (b.p.text.drop z)::Q)) w5 w6) (hkf:kf=hd M' none)
  (h6:Ch w6 c o T cs (P++a.za4 (a.p.text.drop z) :: ⟨w5.heap.size+1,.mk (if z=2 then 15 else 14) [] [] (zfv (M.map Mem.p)) 0 false false,kf,kl⟩ :: b.za4 (b.p.text.drop z)::Q)) :
  zt3 c o T cs P M Q a b z A w ⟨w5.heap.size+1,.mk (if z=2 then 15 else 14) [] [] (zfv (M.map Mem.p)) 0 false false,kf,kl⟩ w6:=by
 have hb:blks (P++a.za4 (a.p.text.drop z)::(M++b.za4 (b.p.text.drop z)::Q))=blks (P++a::(M++b::Q)):=by simp[blks,Mem.za4]
 have hsz2:w2.heap.size=w.heap.size:=by rw[h2];simp[World.setCell]
 have hf2:Fr (c::blks (P++a::(M++b::Q))) w w2:=by
  rw[h2];exact((Fr.refl _ w).setCell ⟨a.m,2,none⟩ (.inl (by simp[blks])) _).setCell ⟨b.m,2,none⟩ (.inl (by simp[blks])) _
 rw[hb] at f3;have hf3:=hf2.trans f3 (λx hx=>.inl hx);have gy:∀x∈blks M,x∈c::blks (P++a::(M++b::Q)):=λx hx=>Qo _ (by rw[zce,zac];simp[hx]);have fq:Fr (c::blks (P++a::(M++b::Q))) w w5:=hf3.trans f5 (λx hx=>by
  rcases List.mem_cons.1 hx with hx|hx
  ·have:=hf3.size;exact .inr (by omega)
  ·exact .inl (gy x hx))
 have hcin:∀x∈c::blks (P++a.za4 (a.p.text.drop z)::b.za4 (b.p.text.drop z)::Q),x∈c::blks (P++a::(M++b::Q)):=λx hx=>by
  simp[blks,Mem.za4] at hx ⊢;rcases hx with hx|hx|hx|hx|hx
  ·exact .inl hx
  ·exact .inr (.inl hx)
  ·exact .inr (.inr (.inl hx))
  ·exact .inr (.inr (.inr (.inr (.inl hx))))
  ·exact .inr (.inr (.inr (.inr (.inr hx))))
 have jd:=fq.trans f6 (λx hx=>.inl (hcin x hx));have dx:∀e∈M',e.m∈blks M:=λe he=>hfrom.blks e.m (List.mem_map.2 ⟨e,he,rfl⟩);have gq:∀x∈blks M,x<w.heap.size:=λx hx=>h.mlt x (by rw[zce,zac];simp[hx]);have dw:∀x∈blks M,x ∉ c::blks (P++a.za4 (a.p.text.drop z)::b.za4 (b.p.text.drop z)::Q):=λx hx=>outM h x hx;have bg:∀e,e∈P++a::(M++b::Q)->KRep w6 (λx=>A x\/x∈blks M) e.kf e.p.kids:=λe he=>(hk e he).move (λx hx=>.inl hx) (λx hx=>jd.block x (hA x hx).1 (hA x hx).2);have dh:∀e,e∈P++a::(M++b::Q)->KRep w5 (λx=>A x\/x∈blks M) e.kf e.p.kids:=λe he=>(hk e he).move (λx hx=>.inl hx) (λx hx=>fq.block x (hA x hx).1 (hA x hx).2);refine⟨h6,rfl,by have:=fq.size;show w.heap.size<=w5.heap.size+1;omega,?_,jd⟩;intro e he;rcases Qbh.1 he with he|he
 ·exact bg e (by simp[he])
 ·rcases List.mem_cons.1 he with rfl|he
  ·exact bg a (by simp)
  ·rcases List.mem_cons.1 he with rfl|he
   ·have h5:KRep w5 (λx=>A x\/x∈blks M) (hd M' none) (M'.map Mem.p):=zi3 hs5 (λx hx=>.inr (dx x hx)) (λx hx=>by
     obtain⟨y,hy,h1,h2,h3⟩:=hfrom x hx;rw[h2,h3];exact dh y (by simp[hy]))
    rw[hp5] at h5;have:KRep w6 (λx=>A x\/x∈blks M) (hd M' none) (zfv (M.map Mem.p)):=h5.move (λx hx=>hx) (λx hx=>by
     have hl5:=fq.size;rcases hx with hx|hx
     ·exact f6.block x (by have:=(hA x hx).1;omega) (λhm=>(hA x hx).2 (hcin x hm))
     ·exact f6.block x (by have:=gq x hx;omega) (dw x hx))
    show KRep w6 _ kf (zfv (M.map Mem.p));rw[hkf];exact this
   ·rcases List.mem_cons.1 he with rfl|he
    ·exact bg b (by simp)
    ·exact bg e (by simp[he])
theorem z1g (c o T:Nat)(cs:List Value)(P M Q:List Mem)(a b:Mem)(A:Nat->Prop)(w:World)(h:Ch w c o T cs (P++a::(M++b::Q)))(hat:a.p.text≠[])(hbt:b.p.text≠[])(htx:txt (M.map Mem.p)<=1000000)(hal:a.p.text.length<=1000000)(hbl:b.p.text.length<=1000000)(hk:Kd w A (P++a::(M++b::Q)))(hA:∀x,A x->x<w.heap.size/\x ∉ c::blks (P++a::(M++b::Q))):Calls prog 208 #[.pointer (some ⟨c,o,none⟩),.pointer (some ⟨a.m,0,none⟩),.pointer (some ⟨b.m,0,none⟩)] w λe w'=>∃n,e=.returned (.tuple #[])/\zt3 c o T cs P M Q a b (zch a.p b.p) A w n w':=by
 have hsp:P++a::(M++b::Q)=(P++a::M)++b::Q:=by simp
 have hseg:=h.seg;have hA1:=((seg_append _ _ _ _ _).1 hseg).2.cells;have hB1:∃ah,w.heap[b.m]?=some (.cells (zcz b ah (hd Q none)).toArray 179 (0,0)):=by
  rw[hsp] at hseg;exact⟨_,((seg_append _ _ _ _ _).1 hseg).2.cells⟩
 obtain⟨bh,hB1⟩:=hB1;have a2:w.cell? ⟨a.m,2,none⟩=some (.string (S.B a.p.text)):=za0 hA1 2 _ rfl;have b2:w.cell? ⟨b.m,2,none⟩=some (.string (S.B b.p.text)):=za0 hB1 2 _ rfl;have af:=za7 hA1;have bf:=za7 hB1;have hab:¬a.m=b.m:=by
  have:=h.nodup;rw[zce] at this;have h2:=(List.nodup_cons.1 (List.nodup_append.1 this).2.1).1;intro x;exact h2 (by rw[x];simp[blks])
 have hba:¬b.m=a.m:=λx=>hab x.symm;have has:(S.B a.p.text).size=a.p.text.length:=S.zav _;have hbs:(S.B b.p.text).size=b.p.text.length:=S.zav _;have hap:0<a.p.text.length:=Qbf.2 hat;have hbp:0<b.p.text.length:=Qbf.2 hbt;have hset:Hid (∀z,Ch ((w.setCell ⟨a.m,2,none⟩ (.string (S.B (a.p.text.drop z)))).setCell ⟨b.m,2,none⟩ (.string (S.B (b.p.text.drop z)))) c o T cs (P++a.za4 (a.p.text.drop z)::(M++b.za4 (b.p.text.drop z)::Q))):=hid (λz=>by
  have h1:=h.ziu (a.p.text.drop z);rw[show P++a.za4 (a.p.text.drop z)::(M++b::Q)=(P++a.za4 (a.p.text.drop z)::M)++b::Q by simp] at h1;have h2:=h1.ziu (b.p.text.drop z);rw[show (P++a.za4 (a.p.text.drop z)::M)++b.za4 (b.p.text.drop z)::Q=P++a.za4 (a.p.text.drop z)::(M++b.za4 (b.p.text.drop z)::Q) by simp] at h2;exact h2)
 have jq:=hid (λz=>zzl c o T cs P M Q (a.za4 (a.p.text.drop z)) (b.za4 (b.p.text.drop z)) _ (hset.out z));have hd1:=hid (λz=>z1v a.p.text z);have hd2:=hid (λz=>z1v b.p.text z);have hH:=hid h;have jm:=hid hk;have jw:=hid hA;have jg:=hid htx;clear hseg hA1 hB1 h hk hA hsp hat hbt htx hset;by_cases ha1:1<a.p.text.length
 ·by_cases hb1:1<b.p.text.length
  ·skip
   have hz:Hid (zch a.p b.p=2):=hid (by unfold zch;rw[if_pos ⟨ha1,hb1⟩]);have hi1:(1:Int)<(a.p.text.length:Int):=by omega
   have hi2:(1:Int)<(b.p.text.length:Int):=by omega
   go_enter func208,ntmps208;go_wp2_with (fail);rw[<-has,<-hbs,hd1.out 2,hd2.out 2];refine(jq.out 2).mono ?_;rintro e1 w3⟨rfl,hc3,hs3,hf3⟩;have jl:Hid (∀ob,Ch (w3.alloc (.cells #[.pointer (hd M none),.pointer (lst M none)] 135)) w3.heap.size 0 135 [ob,ob] M):=hid (λob=>by
    have hn:=hH.out.nodup;rw[zce,zac] at hn;have hlt:∀e∈M,e.m<w3.heap.size:=λe he=>hs3.lt e he;exact⟨hs3.move (λe he=>Below.heap_alloc _ _ _ (hlt e he)),⟨za1 _ _,by simp⟩,(List.nodup_append.1 (List.nodup_cons.1 (List.nodup_append.1 hn).2.1).2).1,λhm=>by
     obtain⟨e,he,hem⟩:=List.mem_map.1 hm;have:=hlt e he;omega⟩)
   have hJ:=hid (zj8 w3.heap.size 0 135 [undef,undef] M _ (jl.out undef) jg.out);have bg:=hid hc3;have fq:=hid hf3;have jk:w.heap.size<=w3.heap.size:=by have:=hf3.size;simpa [World.setCell] using this
   clear hc3 hs3 hf3;go_wp2_with (fail);refine hJ.out.mono ?_;rintro e1 w5⟨M',rfl,dx,gq,dh,dw⟩;have n0:=dx.hdr.zt5;have n1:=dx.hdr.cellL;have hsz5:w3.heap.size+1<=w5.heap.size:=by have:=dw.size;simpa using this
   have jd:Ch w5 c o T cs (P++a.za4 (a.p.text.drop 2)::b.za4 (b.p.text.drop 2)::Q):=bg.out.move (λx hx=>by
    have hxl:x<w3.heap.size:=by rcases List.mem_cons.1 hx with rfl|hx;exact bg.out.lt;exact bg.out.mlt x hx
    have hxo:x ∉ w3.heap.size::blks M:=λhm=>by
     rcases List.mem_cons.1 hm with hm|hm
     ·omega
     ·exact outM hH.out x hm hx
    rw[dw.block x (by simp;omega) hxo,Below.heap_alloc _ _ _ hxl])
   have hIn:=hid (zkc c o T cs P (b.za4 (b.p.text.drop 2)::Q) (a.za4 (a.p.text.drop 2)) (.mk (if (2:Nat)=2 then 15 else 14) [] [] (zfv (M.map Mem.p)) 0 false false) (hd M' none) (lst M' none) w5 jd)
   have hall:=hid (And.intro dx.seg (And.intro gq (And.intro dh dw)));clear dx gq dh dw jd;go_wp2_with (fail);refine hIn.out.mono ?_;rintro e1 w6⟨rfl,hc6,gy,jh⟩;have h6:=hid (And.intro hc6 gy);clear hc6 gy jh;go_wp2;go_end0;rw[hz.out];exact⟨_,rfl,zk8 hH.out jm.out jw.out rfl fq.out rfl (((Fr.refl _ w3).alloc _).trans hall.out.2.2.2 (λx hx=>.inl hx)) hall.out.2.2.1 hall.out.1 hall.out.2.1.out h6.out.2 rfl h6.out.1⟩
  ·skip
   have hz:Hid (zch a.p b.p=1):=hid (by unfold zch;rw[if_neg (λx=>hb1 x.2)]);have hi1:(1:Int)<(a.p.text.length:Int):=by omega
   have hi2:¬(1:Int)<(b.p.text.length:Int):=by omega
   go_enter func208,ntmps208;go_wp2_with (fail);rw[<-has,<-hbs,hd1.out 1,hd2.out 1];refine(jq.out 1).mono ?_;rintro e1 w3⟨rfl,hc3,hs3,hf3⟩;have jl:Hid (∀ob,Ch (w3.alloc (.cells #[.pointer (hd M none),.pointer (lst M none)] 135)) w3.heap.size 0 135 [ob,ob] M):=hid (λob=>by
    have hn:=hH.out.nodup;rw[zce,zac] at hn;have hlt:∀e∈M,e.m<w3.heap.size:=λe he=>hs3.lt e he;exact⟨hs3.move (λe he=>Below.heap_alloc _ _ _ (hlt e he)),⟨za1 _ _,by simp⟩,(List.nodup_append.1 (List.nodup_cons.1 (List.nodup_append.1 hn).2.1).2).1,λhm=>by
     obtain⟨e,he,hem⟩:=List.mem_map.1 hm;have:=hlt e he;omega⟩)
   have hJ:=hid (zj8 w3.heap.size 0 135 [undef,undef] M _ (jl.out undef) jg.out);have bg:=hid hc3;have fq:=hid hf3;have jk:w.heap.size<=w3.heap.size:=by have:=hf3.size;simpa [World.setCell] using this
   clear hc3 hs3 hf3;go_wp2_with (fail);refine hJ.out.mono ?_;rintro e1 w5⟨M',rfl,dx,gq,dh,dw⟩;have n0:=dx.hdr.zt5;have n1:=dx.hdr.cellL;have hsz5:w3.heap.size+1<=w5.heap.size:=by have:=dw.size;simpa using this
   have jd:Ch w5 c o T cs (P++a.za4 (a.p.text.drop 1)::b.za4 (b.p.text.drop 1)::Q):=bg.out.move (λx hx=>by
    have hxl:x<w3.heap.size:=by rcases List.mem_cons.1 hx with rfl|hx;exact bg.out.lt;exact bg.out.mlt x hx
    have hxo:x ∉ w3.heap.size::blks M:=λhm=>by
     rcases List.mem_cons.1 hm with hm|hm
     ·omega
     ·exact outM hH.out x hm hx
    rw[dw.block x (by simp;omega) hxo,Below.heap_alloc _ _ _ hxl])
   have hIn:=hid (zkc c o T cs P (b.za4 (b.p.text.drop 1)::Q) (a.za4 (a.p.text.drop 1)) (.mk (if (1:Nat)=2 then 15 else 14) [] [] (zfv (M.map Mem.p)) 0 false false) (hd M' none) (lst M' none) w5 jd)
   have hall:=hid (And.intro dx.seg (And.intro gq (And.intro dh dw)));clear dx gq dh dw jd;go_wp2_with (fail);refine hIn.out.mono ?_;rintro e1 w6⟨rfl,hc6,gy,jh⟩;have h6:=hid (And.intro hc6 gy);clear hc6 gy jh;go_wp2;go_end0;rw[hz.out];exact⟨_,rfl,zk8 hH.out jm.out jw.out rfl fq.out rfl (((Fr.refl _ w3).alloc _).trans hall.out.2.2.2 (λx hx=>.inl hx)) hall.out.2.2.1 hall.out.1 hall.out.2.1.out h6.out.2 rfl h6.out.1⟩
 ·skip
  have hz:Hid (zch a.p b.p=1):=hid (by unfold zch;rw[if_neg (λx=>ha1 x.1)]);have hi1:¬(1:Int)<(a.p.text.length:Int):=by omega
  go_enter func208,ntmps208;go_wp2_with fail
  rw[<-has,<-hbs,hd1.out 1,hd2.out 1];refine(jq.out 1).mono ?_;rintro e1 w3⟨rfl,hc3,hs3,hf3⟩;have jl:Hid (∀ob,Ch (w3.alloc (.cells #[.pointer (hd M none),.pointer (lst M none)] 135)) w3.heap.size 0 135 [ob,ob] M):=hid (λob=>by
   have hn:=hH.out.nodup;rw[zce,zac] at hn;have hlt:∀e∈M,e.m<w3.heap.size:=λe he=>hs3.lt e he;exact⟨hs3.move (λe he=>Below.heap_alloc _ _ _ (hlt e he)),⟨za1 _ _,by simp⟩,(List.nodup_append.1 (List.nodup_cons.1 (List.nodup_append.1 hn).2.1).2).1,λhm=>by
    obtain⟨e,he,hem⟩:=List.mem_map.1 hm;have:=hlt e he;omega⟩)
  have hJ:=hid (zj8 w3.heap.size 0 135 [undef,undef] M _ (jl.out undef) jg.out);have bg:=hid hc3;have fq:=hid hf3;have jk:w.heap.size<=w3.heap.size:=by have:=hf3.size;simpa [World.setCell] using this
  clear hc3 hs3 hf3;go_wp2_with fail
  refine hJ.out.mono ?_;rintro e1 w5⟨M',rfl,dx,gq,dh,dw⟩;have n0:=dx.hdr.zt5;have n1:=dx.hdr.cellL;have hsz5:w3.heap.size+1<=w5.heap.size:=by have:=dw.size;simpa using this
  have jd:Ch w5 c o T cs (P++a.za4 (a.p.text.drop 1)::b.za4 (b.p.text.drop 1)::Q):=bg.out.move (λx hx=>by
   have hxl:x<w3.heap.size:=by rcases List.mem_cons.1 hx with rfl|hx;exact bg.out.lt;exact bg.out.mlt x hx
   have hxo:x ∉ w3.heap.size::blks M:=λhm=>by
    rcases List.mem_cons.1 hm with hm|hm
    ·omega
    ·exact outM hH.out x hm hx
   rw[dw.block x (by simp;omega) hxo,Below.heap_alloc _ _ _ hxl])
  have hIn:=hid (zkc c o T cs P (b.za4 (b.p.text.drop 1)::Q) (a.za4 (a.p.text.drop 1)) (.mk (if (1:Nat)=2 then 15 else 14) [] [] (zfv (M.map Mem.p)) 0 false false) (hd M' none) (lst M' none) w5 jd)
  have hall:=hid (And.intro dx.seg (And.intro gq (And.intro dh dw)));clear dx gq dh dw jd;go_wp2_with fail
  refine hIn.out.mono ?_;rintro e1 w6⟨rfl,hc6,gy,jh⟩;have h6:=hid (And.intro hc6 gy);clear hc6 gy jh;go_wp2;go_end0;rw[hz.out];exact⟨_,rfl,zk8 hH.out jm.out jw.out rfl fq.out rfl (((Fr.refl _ w3).alloc _).trans hall.out.2.2.2 (λx hx=>.inl hx)) hall.out.2.2.1 hall.out.1 hall.out.2.1.out h6.out.2 rfl h6.out.1⟩
def zem (s:Pt):List Pt->Option (List Pt × Pt × List Pt)
 | []=>none
 | p::r=>match zem s r with
  | some (l1,x,m)=>some (p::l1,x,m)
  | none=>if opens s p=true then some ([],p,r) else none
theorem zo2 (s:Pt)(l:List Pt)(h:∀x∈l,opens s x=false):zem s l=none:=by
 induction l with
 | nil=>rfl
 | cons p r ih=>simp only[zem];rw[ih (λx hx=>h x (by simp[hx]))];simp[h p (by simp)]
theorem zwd (s:Pt)(l1:List Pt)(x:Pt)(m:List Pt)(hx:opens s x=true)(hm:∀y∈m,opens s y=false):zem s (l1++x::m)=some (l1,x,m):=by
 induction l1 with
 | nil=>simp only[List.nil_append,zem];rw[zo2 s m hm];simp[hx]
 | cons p r ih=>simp only[List.cons_append,zem];rw[ih]
def zci:Nat->List Pt->Pt->List Pt × Pt
 | 0,L,s=>(L,s)
 | f+1,L,s=>if s.rc=true/\s.text≠[] then (match zem s L with
   | none=>(L,s)
   | some (l1,x,m)=>zci f (l1++[x.za4 (x.text.drop (zch x s)),zhs (zch x s) m]) (s.za4 (s.text.drop (zch x s)))) else (L,s)
def zj0:List Pt->List Pt->List Pt
 | L,[]=>L
 | L,s::r=>zj0 ((zci s.text.length L s).1++[(zci s.text.length L s).2]) r
def pairT (l:List Pt):List Pt:=zj0 [] l
theorem zdp (f:Nat)(L:List Pt)(s:Pt)(h:¬(s.rc=true/\s.text≠[])):zci f L s=(L,s):=by
 cases f with
 | zero=>rfl
 | succ f=>simp only[zci];rw[if_neg h]
theorem zgg (f:Nat)(L:List Pt)(s:Pt)(h:zem s L=none):zci f L s=(L,s):=by
 cases f with
 | zero=>rfl
 | succ f=>simp only[zci];rw[h];simp
theorem zgj (f:Nat)(L l1 m:List Pt)(s x:Pt)(h1:s.rc=true)(h2:s.text≠[])(h:zem s L=some (l1,x,m)):zci (f+1) L s=zci f (l1++[x.za4 (x.text.drop (zch x s)),zhs (zch x s) m]) (s.za4 (s.text.drop (zch x s))):=by
 simp only[zci];rw[if_pos ⟨h1,h2⟩,h]
theorem zsr (f g:Nat)(L:List Pt)(s:Pt)(hf:s.text.length<=f)(hg:s.text.length<=g):zci f L s=zci g L s:=by
 induction f generalizing g L s with
 | zero=>
  have:s.text=[]:=Qbg.1 (by omega);rw[zdp 0 L s (λh=>h.2 this),zdp g L s (λh=>h.2 this)]
 | succ f ih=>
  by_cases hc:s.rc=true/\s.text≠[]
  ·have hpos:0<s.text.length:=Qbf.2 hc.2;obtain⟨g',rfl⟩:∃g',g=g' + 1:=⟨g-1,by omega⟩;cases hl:zem s L with
   | none=>rw[zgg _ _ _ hl,zgg _ _ _ hl]
   | some v=>
    obtain⟨l1,x,m⟩:=v;rw[zgj _ _ _ _ _ _ hc.1 hc.2 hl,zgj _ _ _ _ _ _ hc.1 hc.2 hl];have hz:1<=zch x s:=(by unfold zch;split<;>omega);have ht:(s.za4 (s.text.drop (zch x s))).text.length=s.text.length-zch x s:=(by simp[Pt.za4,Pt.text]);exact ih g' _ _ (by omega) (by omega)
  ·rw[zdp _ _ _ hc,zdp _ _ _ hc]
theorem zeb (a b:List Pt):txt (a++b)=txt a+txt b:=by simp[txt]
theorem ziq (p:Pt)(r:List Pt):txt (p::r)=p.text.length+txt r:=by simp[txt]
structure zmt (c o T:Nat)(cs:List Value)(l:List Mem)(A0:Nat->Prop)(w:World)(L R:List Mem)(A:Nat->Prop)(wr:World):Prop where
 ch:Ch wr c o T cs (L++R)
 kids:Kd wr A (L++R)
 dead:∀x,A x->x<wr.heap.size/\x ∉ c::blks (L++R)
 old:∀x,A x->A0 x\/x∈blks l\/w.heap.size<=x
 live:∀x∈blks (L++R),x∈blks l\/w.heap.size<=x
 bytes:txt ((L++R).map Mem.p)<=1000000
 runs:∀x∈L++R,x.p.rs<=1000000
 fr:Fr (c::blks l) w wr
theorem zmt.below {c o T:Nat}{cs:List Value}{l:List Mem}{A0:Nat->Prop}{w:World}{L R:List Mem}{A:Nat->Prop}{wr w':World}(h:zmt c o T cs l A0 w L R A wr)(hb:Below wr.heap.size wr w'):zmt c o T cs l A0 w L R A w':=
 ⟨h.ch.move (λx hx=>hb.block x (by rcases List.mem_cons.1 hx with rfl|hx;exact h.ch.lt;exact h.ch.mlt x hx)),λe he=>(h.kids e he).move (λx hx=>hx) (λx hx=>hb.block x (h.dead x hx).1),λx hx=>⟨Qh (h.dead x hx).1 hb.size,(h.dead x hx).2⟩,h.old,h.live,h.bytes,h.runs,h.fr.trans (Fr.zii (L:=[]) hb) (λx hx=>by simp at hx)⟩
theorem zmt.wrapped {c o T:Nat}{cs:List Value}{l:List Mem}{A0:Nat->Prop}{w:World}{L1 M R:List Mem}{x s:Mem}{A:Nat->Prop}{wr w':World}{n:Mem}{z:Nat}(h:zmt c o T cs l A0 w (L1++x::M) (s::R) A wr)(hw:zt3 c o T cs L1 M R x s z A wr n w'):zmt c o T cs l A0 w (L1++[x.za4 (x.p.text.drop z),n]) (s.za4 (s.p.text.drop z)::R) (λy=>A y\/y∈blks M) w':=by
 have e1:(L1++[x.za4 (x.p.text.drop z),n])++(s.za4 (s.p.text.drop z)::R)=L1++x.za4 (x.p.text.drop z)::n::s.za4 (s.p.text.drop z)::R:=by simp
 have e0:(L1++x::M)++s::R=L1++x::(M++s::R):=by simp
 have hch:=h.ch;have dh:=h.dead;have hlive:=h.live;have hbytes:=h.bytes;have bg:=h.runs;rw[e0] at hch dh hlive hbytes bg;have hwl:=hw.fr.size;have dw:∀y∈blks M,y∈blks (L1++x::(M++s::R)):=λy hy=>by rw[zce,zac];simp[hy]
 have hnew:∀y∈blks (L1++x.za4 (x.p.text.drop z)::n::s.za4 (s.p.text.drop z)::R),y∈blks (L1++x::(M++s::R))\/wr.heap.size<=y:=λy hy=>by
  simp[blks,Mem.za4] at hy ⊢;rcases hy with hy|hy|hy|hy|hy
  ·exact .inl (.inl hy)
  ·exact .inl (.inr (.inl hy))
  ·exact .inr (by have:=hw.new;omega)
  ·exact .inl (.inr (.inr (.inr (.inl hy))))
  ·exact .inl (.inr (.inr (.inr (.inr hy))))
 have hwr:w.heap.size<=wr.heap.size:=h.fr.size;refine⟨by rw[e1];exact hw.ch,by rw[e1];exact hw.kids,?_,?_,?_,?_,?_,?_⟩
 ·rw[e1];intro y hy;rcases hy with hy|hy
  ·refine⟨Qh (dh y hy).1 hwl,λhm=>?_⟩;rcases List.mem_cons.1 hm with hm|hm
   ·exact(dh y hy).2 (by rw[hm];exact Qx)
   ·rcases hnew y hm with hm|hm
    ·exact(dh y hy).2 (Qo _ hm)
    ·have:=(dh y hy).1;omega
  ·refine⟨Qh (hch.mlt y (dw y hy)) hwl,λhm=>?_⟩;have ho:=outM (ta:=x.p.text.drop z) (tb:=s.p.text.drop z) hch y hy;apply ho
   rcases List.mem_cons.1 hm with hm|hm
   ·rw[hm];exact Qx
   ·refine Qo _ ?_;have hnn:y≠n.m:=λe=>by have:=hch.mlt y (dw y hy);have:=hw.new;omega
    simp[blks,Mem.za4] at hm ⊢;rcases hm with hm|hm|hm|hm|hm
    ·exact .inl hm
    ·exact .inr (.inl hm)
    ·exact absurd hm hnn
    ·exact .inr (.inr (.inl hm))
    ·exact .inr (.inr (.inr hm))
 ·intro y hy;rcases hy with hy|hy
  ·exact h.old y hy
  ·rcases hlive y (dw y hy) with h1|h1
   ·exact .inr (.inl h1)
   ·exact .inr (.inr h1)
 ·rw[e1];intro y hy;rcases hnew y hy with h1|h1
  ·exact hlive y h1
  ·exact .inr (by omega)
 ·rw[e1];have hn:n.p.text=[]:=by rw[hw.part];rfl
  have t1:(x.za4 (x.p.text.drop z)).p.text=x.p.text.drop z:=rfl;have t2:(s.za4 (s.p.text.drop z)).p.text=s.p.text.drop z:=rfl;simp only[Qv,Qs,zeb,ziq,hn,t1,t2,Qf,Qi] at hbytes ⊢;omega
 ·rw[e1];intro y hy;rcases Qbh.1 hy with hy|hy
  ·exact bg y (by simp[hy])
  ·rcases List.mem_cons.1 hy with rfl|hy
   ·exact bg x (by simp)
   ·rcases List.mem_cons.1 hy with rfl|hy
    ·rw[hw.part];simp[zhs,Pt.rs]
    ·rcases List.mem_cons.1 hy with rfl|hy
     ·exact bg s (by simp)
     ·exact bg y (by simp[hy])
 ·refine h.fr.trans hw.fr (λy hy=>?_);rcases List.mem_cons.1 hy with hy|hy
  ·exact .inl (by rw[hy];exact Qx)
  ·rcases hlive y hy with h1|h1
   ·exact .inl (Qo _ h1)
   ·exact .inr h1
theorem z0l (c o T:Nat)(cs:List Value)(l:List Mem)(A0:Nat->Prop)(w:World)(h:zmt c o T cs l A0 w [] l A0 w):Calls prog 163 #[.pointer (some ⟨c,o,none⟩)] w λe w'=>∃L A,e=.returned (.tuple #[])/\Hid (L.map Mem.p=pairT (l.map Mem.p))/\zmt c o T cs l A0 w L [] A w':=by
 have hF:=hid (zir c o (.pointer (hd l none)) w h.ch.hdr.zt5 ⟨_,rfl⟩);have hH:=hid h;clear h;go_enter func163,ntmps163;go_wp2_with fail
 refine hF.out.mono ?_;rintro e w'⟨rfl,rfl⟩;go_wp2;go_loopg [2,3] l.length (λk s2 _ wr=>∃L R A,k=R.length/\s2=.pointer (hd R none)/\Hid (zj0 (L.map Mem.p) (R.map Mem.p)=pairT (l.map Mem.p))/\zmt c o T cs l A0 w L R A wr)
 case atStart=>exact⟨[],l,A0,rfl,rfl,hid rfl,hH.out⟩
 case round=>
  obtain⟨L,R,A,rfl,rfl,hsp,hS⟩:=hrel;cases R with
  | nil=>
   have jq:=hid hS;clear hS;rw[show hd ([]:List Mem) none=none from rfl];go_wp2;go_end0;exact⟨L,A,rfl,hid hsp.out,jq.out⟩
  | cons s0 R=>
   have jq:=hid hS;rw[show hd (s0::R) none=some (⟨s0.m,0,none⟩:Addr) from rfl];clear hS;go_wp2;go_loopg [3] s0.p.text.length (λk _ wr=>∃L' s A,s.m=s0.m/\k=s.p.text.length/\Hid (zci k (L'.map Mem.p) s.p=zci s0.p.text.length (L.map Mem.p) s0.p)/\zmt c o T cs l A0 w L' (s::R) A wr)
   case atStart=>exact⟨L,s0,A,rfl,rfl,hid rfl,jq.out⟩
   case round=>
    obtain⟨L',s,A',hsm,rfl,hcl,hS'⟩:=hrel;have hch:=hS'.ch;have hseg:=hch.seg;have jd:=((seg_append _ _ _ _ _).1 hseg).2.cells;have s2:wr.cell? ⟨s.m,2,none⟩=some (.string (S.B s.p.text)):=za0 jd 2 _ rfl;have s7:wr.cell? ⟨s.m,7,none⟩=some (.bool s.p.rc):=za0 jd 7 _ rfl;have kg:s.m<wr.heap.size:=hch.mlt s.m (by simp[blks]);have jg:=hid (λ(wx:World) (hx:Below wr.heap.size wr wx)=>zdq s.m (.pointer (hd R none)) wx (za0 ((hx.block s.m kg).trans jd) 9 _ rfl) ⟨_,rfl⟩);have gy:=hid hS';have dw:Hid (∀wx,Below wr.heap.size wr wx->zmt c o T cs l A0 w (L' ++ [s]) R A' wx):=hid (λwx hx=>by
     have h1:=gy.out.below hx;have e1:(L' ++ [s])++R=L' ++ s::R:=(by simp);exact⟨by rw[e1];exact h1.ch,by rw[e1];exact h1.kids,by rw[e1];exact h1.dead,h1.old,by rw[e1];exact h1.live,by rw[e1];exact h1.bytes,by rw[e1];exact h1.runs,h1.fr⟩)
    have bg:Hid (zci s.p.text.length (L'.map Mem.p) s.p=(L'.map Mem.p,s.p)->zj0 ((L' ++ [s]).map Mem.p) (R.map Mem.p)=pairT (l.map Mem.p)):=hid (λh1=>by
     have h2:=hsp.out;simp only[Qs,zj0] at h2;rw[<-hcl.out,h1] at h2;rw[Qv];exact h2)
    have gq:s.p.text≠[]->_:=λht=>zra L' R s wr hseg ht hS'.runs;have fq:=hid gq;have dx:=hid hsm;rw[hsm] at s2 s7 jg kg;clear hch hseg jd hS' gq;cases hrc:s.p.rc
    ·rw[hrc] at s7;have hend:=hid (bg.out (zdp _ _ _ (λh=>by rw[hrc] at h;exact absurd h.1 (by simp))));have hmv:=hid (dw.out wr (Below.refl _ _));clear hrc;go_wp2_with (go_at_call 110;refine(jg.out _ (Below.refl _ _)).mono ?_;rintro e1 w'⟨rfl,rfl⟩)
     go_roundg R.length
     case rel=>exact⟨L' ++ [s],R,A',rfl,rfl,hend.out,hmv.out⟩
     case measure=>simp
    ·rw[hrc] at s7;by_cases hte:s.p.text=[]
     ·have hend:=hid (bg.out (zdp _ _ _ (λh=>h.2 hte)));have hmv:=hid (dw.out wr (Below.refl _ _));rw[hte] at s2;have s2':wr.cell? ⟨s0.m,2,none⟩=some (.string ⟨#[]⟩):=s2;clear hrc s2 hte;go_wp2_with (go_at_call 110;refine(jg.out _ (Below.refl _ _)).mono ?_;rintro e1 w'⟨rfl,rfl⟩)
      go_roundg R.length
      case rel=>exact⟨L' ++ [s],R,A',rfl,rfl,hend.out,hmv.out⟩
      case measure=>simp
     ·have htp:0<(S.B s.p.text).size:=(by rw[S.zav];exact Qbf.2 hte);have htn:=S.zbo _ htp;have kr:=S.zb6 _ htp;have hop:=hid (fq.out hte);rw[hsm] at hop;have jk:=hid hrc;have dh:=hid hte;clear hrc hte hsm;go_wp2_with (fail);refine hop.out.mono ?_;rintro e1 w1⟨r,rfl,hb1,hr⟩;rcases hr.out with ⟨rfl,hall⟩|⟨L1,x,M,hL',rfl,hox,jy⟩
      ·have hend:=hid (bg.out (zgg _ _ _ (zo2 _ _ (λy hy=>by
        obtain⟨e,he,rfl⟩:=List.mem_map.1 hy;exact hall e he))))
       have hmv:=hid (dw.out w1 hb1);have jm:=hid hb1;clear hall hb1 hr;go_wp2_with (go_at_call 110;refine(jg.out _ jm.out).mono ?_;rintro e1 w'⟨rfl,rfl⟩)
       go_roundg R.length
       case rel=>exact⟨L' ++ [s],R,A',rfl,rfl,hend.out,hmv.out⟩
       case measure=>simp
      ·subst hL';have hS1:=gy.out.below hb1;have e0:(L1++x::M)++s::R=L1++x::(M++s::R):=(by simp);have hxt:x.p.text≠[]:=λe=>by unfold opens at hox;rw[e] at hox;simp at hox
       have hby:=hS1.bytes;rw[e0] at hby
       simp only[Qv,Qs,zeb,ziq] at hby
       have hW:=z1g c o T cs L1 M R x s A' w1 (by rw[<-e0];exact hS1.ch) hxt dh.out (by omega) (by omega) (by omega) (by rw[<-e0];exact hS1.kids) (by rw[<-e0];exact hS1.dead);rw[dx.out] at hW;have lg:=hid hW;have jw:=hid hS1;have jl:Hid (∀n:Mem,n.p=zhs (zch x.p s.p) (M.map Mem.p)->zci (s.za4 (s.p.text.drop (zch x.p s.p))).p.text.length ((L1++[x.za4 (x.p.text.drop (zch x.p s.p)),n]).map Mem.p) (s.za4 (s.p.text.drop (zch x.p s.p))).p=zci s0.p.text.length (L.map Mem.p) s0.p):=hid (λn hn=>by
        rw[<-hcl.out];have hpos:0<s.p.text.length:=Qbf.2 dh.out;obtain⟨f,hf⟩:∃f,s.p.text.length=f+1:=⟨s.p.text.length-1,by omega⟩;have hlo:zem s.p ((L1++x::M).map Mem.p)=some (L1.map Mem.p,x.p,M.map Mem.p):=by
         rw[Qv,Qs];exact zwd _ _ _ _ hox (λy hy=>by obtain⟨e,he,rfl⟩:=List.mem_map.1 hy;exact jy e he)
        rw[hf,zgj _ _ _ _ _ _ jk.out dh.out hlo];have hz:1<=zch x.p s.p:=(by unfold zch;split<;>omega);have ht2:(s.za4 (s.p.text.drop (zch x.p s.p))).p.text.length=s.p.text.length-zch x.p s.p:=(by simp[Mem.za4,Pt.za4,Pt.text]);rw[Qv,Qs,Qs,List.map_nil,hn];exact zsr _ _ _ _ (by omega) (by show (s.za4 (s.p.text.drop (zch x.p s.p))).p.text.length<=f;omega))
       have hlt2:Hid ((s.za4 (s.p.text.drop (zch x.p s.p))).p.text.length<s.p.text.length):=hid (by
        have hpos:0<s.p.text.length:=Qbf.2 dh.out;have hz:1<=zch x.p s.p:=(by unfold zch;split<;>omega);have ht2:(s.za4 (s.p.text.drop (zch x.p s.p))).p.text.length=s.p.text.length-zch x.p s.p:=(by simp[Mem.za4,Pt.za4,Pt.text]);omega)
       have jh:Hid ((s.za4 (s.p.text.drop (zch x.p s.p))).m=s0.m):=hid dx.out;clear hS1 hW hby hxt hb1 hr hox jy e0;rw[show (some x.ad:Option Addr)=some (⟨x.m,0,none⟩:Addr) from rfl];go_wp2_with (fail);refine lg.out.mono ?_;rintro e1 w2⟨n,rfl,hwr⟩;have hN:=hid (jw.out.wrapped hwr);have hc2:=hid (jl.out n hwr.part);clear hwr;go_wp2;go_roundg (s.za4 (s.p.text.drop (zch x.p s.p))).p.text.length
       case rel=>exact⟨_,_,_,jh.out,rfl,hc2,hN.out⟩
       case measure=>exact hlt2.out
def zdi (l:List Pt):List Pt:=zfv (pairT l)
structure zs8 (c o T:Nat)(cs:List Value)(l:List Mem)(A0:Nat->Prop)(w:World)(l':List Mem)(A:Nat->Prop)(w':World):Prop where
 ch:Ch w' c o T cs l'
 part:l'.map Mem.p=zdi (l.map Mem.p)
 kids:Kd w' A l'
 dead:∀x,A x->x<w'.heap.size/\x ∉ c::blks l'
 old:∀x,A x->A0 x\/x∈blks l\/w.heap.size<=x
 live:∀x∈blks l',x∈blks l\/w.heap.size<=x
 fr:Fr (c::blks l) w w'
theorem zk1 (c o T:Nat)(cs:List Value)(l:List Mem)(A0:Nat->Prop)(w:World)(h:Ch w c o T cs l)(hk:Kd w A0 l)(hA:∀x,A0 x->x<w.heap.size/\x ∉ c::blks l)(ht:txt (l.map Mem.p)<=1000000)(hr:∀x∈l,x.p.rs<=1000000):Calls prog 107 #[.pointer (some ⟨c,o,none⟩)] w λe w'=>∃l' A,e=.returned (.tuple #[])/\zs8 c o T cs l A0 w l' A w':=by
 have hP:=hid (z0l c o T cs l A0 w ⟨h,hk,hA,λx hx=>.inl hx,λx hx=>.inl hx,ht,hr,Fr.refl _ _⟩);clear h hk hA ht hr;go_enter func107,ntmps107;go_wp2_with fail
 refine hP.out.mono ?_;rintro e w1⟨L,A,rfl,hpt,hS⟩;have hch:Ch w1 c o T cs L:=by have:=hS.ch;rwa [Qbk] at this
 have hby:txt (L.map Mem.p)<=1000000:=by have:=hS.bytes;rwa [Qbk] at this
 have hJ:=hid (zj8 c o T cs L w1 hch hby);have bg:=hid hS;clear hS hch hby
 go_wp2_with fail
 refine hJ.out.mono ?_;rintro e w2⟨l',rfl,hc2,hp2,hfr2,hf2⟩;have hall:=hid (And.intro hc2 (And.intro hp2 (And.intro hfr2 hf2)));clear hc2 hp2 hfr2 hf2;go_wp2;go_end0;obtain⟨hc2,hp2,hfr2,hf2⟩:=hall.out;have hS:=bg.out;have hd:=hS.dead;have hl:=hS.live;have hkd:=hS.kids;rw[Qbk] at hd hl hkd;refine⟨l',A,rfl,hc2,by rw[hp2.out,hpt.out];rfl,?_,?_,hS.old,λx hx=>hl x (hfr2.blks x hx),hS.fr.trans hf2 (λx hx=>?_)⟩
 ·intro e he;obtain⟨e1,h1,h2,h3,h4⟩:=hfr2 e he;rw[h3,h4];exact(hkd e1 h1).move (λx hx=>hx) (λx hx=>hf2.block x (hd x hx).1 (hd x hx).2)
 ·intro x hx;refine⟨Qh (hd x hx).1 hf2.size,λhm=>(hd x hx).2 ?_⟩;rcases List.mem_cons.1 hm with hm|hm
  ·rw[hm];exact Qx
  ·exact Qo _ (hfr2.blks x hm)
 ·rcases List.mem_cons.1 hx with hx|hx
  ·exact .inl (by rw[hx];exact Qx)
  ·rcases hl x hx with h1|h1
   ·exact .inl (Qo _ h1)
   ·exact .inr h1
end Go.Proofs.YtlojgpkajkedeaaGreatDoor
