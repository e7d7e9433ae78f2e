import Derived.Test.YtlojgpkajkedeaaGreatDoorNE8
import Derived.Test.YtlojgpkajkedeaaGreatDoorNE11
import Derived.Test.YtlojgpkajkedeaaGreatDoorNW17
import Derived.ScopeJumps
set_option maxHeartbeats 16000000
set_option maxRecDepth 100000
namespace Go.Proofs.YtlojgpkajkedeaaGreatDoor
open Go.RowKit Go.Proofs.Tryz
theorem Tryz.z3c:(prog.info? 253).map (λi=>(i.zero,i.size,i.bytes))=some (some (.agg #[.pointer none,.bool false,.bool false]),3,16):=by kernel_rfl
theorem Ch.set5 {w:World}{C f k:Nat}{ct:ByteArray}{sl sl':Value}{ms:List Mem}(h:Ch w C 3 168 (zbq ct f k sl) ms):Ch (w.setCell ⟨C,5,none⟩ sl') C 3 168 (zbq ct f k sl') ms:=
 ⟨h.seg.zan _ h.out _,⟨za3 h.hdr.1 5 sl',by show 3+1<6;omega⟩,h.nodup,h.out⟩
def opn3 (ad:Addr)(im dd:Bool):List Value:=[.pointer (some ad),.bool im,.bool dd]
theorem zoe (ms:List Mem)(m:Mem)(os:List Opn)(im:Bool):zb8 (ms++[m]) (os++[⟨ms.length,im,false⟩])=zb8 (ms++[m]) os++opn3 m.ad im false:=by
 unfold zb8 opn3;rw[Qv,List.flatten_append];simp
theorem zbe (ms:List Mem)(os:List Opn):(zb8 ms os).length=os.length*3:=by
 unfold zb8;induction os with
 | nil=>rfl
 | cons x r ih=>simp only[Qs,List.flatten_cons,Qa,ih,Qd,Qi];omega
theorem Cut.pushed {C:Nat}{ct:ByteArray}{f k:Nat}{ms:List Mem}{m:Mem}{os:List Opn}{sa:Option Addr}{sc g cap1:Nat}{A:Nat->Prop}{im:Bool}{w W w3:World}(h:Cut C ct f k (ms++[m]) os sa sc A w)(hj:∀x∈os,x.j<ms.length)(hW:Below w.heap.size w W)
  (hown3:w3.ownsRow (C+1) 253 3 (.slice (some ⟨g,0,none⟩) (os.length+1) cap1) (os.length+1) (zb8 (ms++[m]) os++opn3 m.ad im false)) (hgrow:W.grownBy w3 (Value.slice sa os.length sc).ownBlock) (hat:(Value.slice sa os.length sc).ownBlock=some g\/g=W.heap.size) :
  Cut C ct f k (ms++[m]) (os++[⟨ms.length,im,false⟩]) (some ⟨g,0,none⟩) cap1 A (w3.setCell ⟨C,5,none⟩ (.slice (some ⟨g,0,none⟩) (os.length+1) cap1))/\Below C w (w3.setCell ⟨C,5,none⟩ (.slice (some ⟨g,0,none⟩) (os.length+1) cap1)):=by
 have hlt:=h.own.lt;have hcl:=h.lt;have dw:=hW.size;have hs3:=hgrow.size;have hblk:∀x,x<w.heap.size->some x≠(Value.slice sa os.length sc).ownBlock->w3.heap[x]?=w.heap[x]?:=λx hx hne=>by
  rw[hgrow.block x (by omega) hne,hW.block x hx]
 have hC0:some C≠(Value.slice sa os.length sc).ownBlock:=λe=>by have:=(hlt C e.symm).1;omega
 have hmb:∀x∈C::blks (ms++[m]),w3.heap[x]?=w.heap[x]?:=λx hx=>by
  rcases List.mem_cons.1 hx with rfl|hx
  ·exact hblk _ hcl hC0
  ·exact hblk x (h.ch.mlt x hx) (h.sep x hx)
 have dh:Ch w3 C 3 168 (zbq ct f k (.slice sa os.length sc)) (ms++[m]):=h.ch.move hmb;have bg:∀x,x<w.heap.size->some x≠(Value.slice sa os.length sc).ownBlock->some x≠(Value.slice (some ⟨g,0,none⟩) (os.length+1) cap1).ownBlock:=λx hx hne e=>by
  have hgo:(Value.slice (some (⟨g,0,none⟩:Addr)) (os.length+1) cap1).ownBlock=some g:=rfl;rw[hgo] at e;cases e
  rcases hat with hat|hat
  ·exact hne hat.symm
  ·omega
 have hln:(os++[(⟨ms.length,im,false⟩:Opn)]).length=os.length+1:=by simp
 refine⟨⟨?_,?_,?_,?_,?_,h.above,?_,?_,h.fk,h.kl,h.small,h.bytes,h.runs⟩,?_⟩
 ·rw[hln];exact dh.set5
 ·intro e he;exact(h.kids e he).move (λx hx=>hx) (λx hx=>by
   have hd:=h.dead x hx;rw[Below.heap_setCell _ _ _ _ (λ(e:x=C)=>hd.2.1 (by rw[e];exact Qx))];exact hblk x hd.1 hd.2.2)
 ·intro x hx;have hd:=h.dead x hx;refine⟨?_,hd.2.1,?_⟩
  ·have:(w3.setCell ⟨C,5,none⟩ (.slice (some ⟨g,0,none⟩) (os.length+1) cap1)).heap.size=w3.heap.size:=by simp[World.setCell]
   omega
  ·rw[hln];exact bg x hd.1 hd.2.2
 ·rw[hln,zoe];exact ownsRow_setCell_below hown3 (by simp) _
 ·intro x hx;rw[hln];exact bg x (h.ch.mlt x hx) (h.sep x hx)
 ·intro x hx;rcases Qbh.1 hx with hx|hx
  ·exact h.inl x hx
  ·simp at hx;subst hx;simp
 ·rw[List.pairwise_append];exact⟨h.up,by simp,λx hx y hy=>by simp at hy;subst hy;exact hj x hx⟩
 ·exact Below.setCell (Below.grown (hW.mono (Nat.le_of_lt hcl)) hgrow (by omega) (λq hq=>by have:=(hlt q hq).1;omega)) (by simp) _
theorem z0x (C:Nat)(ct:ByteArray)(f k:Nat)(ms:List Mem)(os:List Opn)(sa:Option Addr)(sc:Nat)(A:Nat->Prop)(m:Mem)(im:Bool)(w:World)(h:Cut C ct f k (ms++[m]) os sa sc A w)(hj:∀x∈os,x.j<ms.length)(hol:os.length<=1000000):Calls prog 241 #[.pointer (some ⟨C,5,none⟩),.agg #[.pointer (some ⟨m.m,0,none⟩),.bool im,.bool false]] w λe w'=>∃sa' sc',e=.returned (.tuple #[])/\Cut C ct f k (ms++[m]) (os++[⟨ms.length,im,false⟩]) sa' sc' A w'/\Below C w w':=by
 obtain⟨i0,hi,hz0,hz1,hz2⟩:=info_parts Tryz.z3c;have hcc:=h.cells;have hcl:=h.lt;have hlt:=h.own.lt;obtain⟨wb,hwb⟩:=Qzz (w.alloc (.cells #[.pointer (some ⟨m.m,0,none⟩),.bool im,.bool false] 253));have hbs:wb.heap.size=w.heap.size+1:=by rw[hwb];simp
 have hbb:Below w.heap.size w wb:=by rw[hwb];exact(Below.refl _ _).alloc (Qc _) _
 have hbx:wb.heap[w.heap.size]?=some (.cells #[.pointer (some ⟨m.m,0,none⟩),.bool im,.bool false] 253 (0,0)):=by rw[hwb];exact za1 _ _
 have hcb:wb.heap[C]?=_:=(hbb.block C hcl).trans hcc;have q5:wb.cell? ⟨C,5,none⟩=some (.slice sa os.length sc):=za0 hcb 5 _ rfl;have x0:wb.cell? ⟨w.heap.size,0,none⟩=some (.pointer (some ⟨m.m,0,none⟩)):=za0 hbx 0 _ rfl;have x1:wb.cell? ⟨w.heap.size,1,none⟩=some (.bool im):=za0 hbx 1 _ rfl;have x2:wb.cell? ⟨w.heap.size,2,none⟩=some (.bool false):=za0 hbx 2 _ rfl;have hown:=hid (λo=>((h.below hbb).own.alloc o));have hnew:Hid (∀(wx:World) (B:Nat),wx.heap[B]?=some (.cells #[.pointer (some ⟨m.m,0,none⟩),.bool im,.bool false] 253 (0,0))->∀j u,(opn3 m.ad im false)[j]?=some u->wx.cell? ((⟨B,0,none⟩:Addr).add j)=some u):=hid (λwx B hB j u hu=>World.news_of_block hB j u hu);have hone:Hid (∀u∈opn3 m.ad im false,u.oneCell'=true):=hid (by
  intro u hu;simp[opn3] at hu;rcases hu with rfl|rfl|rfl<;>rfl)
 have hH:=hid h;have bg:Hid (∀o,Below w.heap.size w (wb.drew.alloc o)):=hid (λo=>hbb.drew.alloc (by show w.heap.size<=wb.heap.size;omega) _);have dx:Hid (∀o w3,(wb.drew.alloc o).grownBy w3 (Value.slice sa os.length sc).ownBlock->w3.heap[C]?=some (.cells [.string ct,.int .i64 (f:Nat),.int .i64 (k:Nat),.pointer (hd (ms++[m]) none),.pointer (lst (ms++[m]) none),.slice sa os.length sc].toArray 168 (0,0))):=hid (λo w3 hg=>by
  rw[hg.block C (by have:=(bg.out o).size;omega) (λe=>by have:=(hlt C e.symm).1;omega),(bg.out o).block C hcl];exact hcc)
 have dw:=hid hbs;have gq:∀o,(wb.alloc o).cell? ⟨C,5,none⟩=some (.slice sa os.length sc):=λo=>za0 ((Below.heap_alloc wb o C (by omega)).trans hcb) 5 _ rfl;have hbase:C+1<=wb.heap.size:=by omega
 clear h hcc hcb hbx hlt hbs;go_enter func241,ntmps241;go_wp2_with fail
 rw[<-hwb];clear hwb hbb;go_region_law ((refine step_append_lies _ (by rfl) _ _ 164 (by rfl) (C+1) 253 i0 (.agg #[.pointer none,.bool false,.bool false]) 3 16 underlying164 hi hz0 hz1 hz2 (by rfl) (by omega) (.slice sa os.length sc) os.length (zb8 (ms++[m]) os) (by rfl) (hown.out _) ⟨wb.heap.size,0,none⟩ 1 1 (opn3 m.ad im false) (by rfl) (by rfl) (hnew.out _ _ (za1 _ _)) hone.out (by omega) (by unfold maxLen;omega) (by omega) (by simp;omega) (wb.heap.size+1) (by simp) ?_;intro g fq w3 hown3 hgrow hat dh;have hc3:=dx.out _ w3 hgrow;have k5:w3.cell? ⟨C,5,none⟩=some (.slice sa os.length sc):=za0 hc3 5 _ rfl;have f5:=za7 hc3))
 all_goals (have hp:=hid (hH.out.pushed hj (bg.out _) hown3 hgrow (by have:=hat;simpa using this)))
 all_goals clear hown3 hgrow hat hc3
 all_goals go_end0
 all_goals exact⟨_,_,rfl,hp.out.1,hp.out.2⟩
theorem z18 (C:Nat)(ct:ByteArray)(f k:Nat)(ms:List Mem)(sa:Option Addr)(sc:Nat)(A:Nat->Prop)(w:World)(h:Cut C ct f k ms [] sa sc A w):Calls prog 236 #[.pointer (some ⟨C,5,none⟩)] w λe w'=>e=.returned (.tuple #[.agg #[.pointer none,.bool false,.bool false],.bool false])/\Below w.heap.size w w':=by
 have hcc:=h.cells;have hcl:=h.lt;have q5:w.cell? ⟨C,5,none⟩=some (.slice sa 0 sc):=za0 hcc 5 _ rfl;have bg:∀o,(w.alloc o).cell? ⟨C,5,none⟩=some (.slice sa 0 sc):=λo=>za0 ((Below.heap_alloc w o C hcl).trans hcc) 5 _ rfl;clear h hcc;go_enter func236,ntmps236;go_wp2;exact bodyPost_ret (v:=.tuple #[.agg #[.pointer none,.bool false,.bool false],.bool false]) (by simp[results,results236,go_sem]) rfl ⟨rfl,(Below.refl _ _).alloc (Qc _) _⟩
theorem zjc (ms:List Mem)(os:List Opn)(o:Opn):zb8 ms (os++[o])=zb8 ms os++[Value.pointer ((ms[o.j]?).map Mem.ad),.bool o.image,.bool o.dead]:=by
 unfold zb8;rw[Qv,List.flatten_append];simp
theorem Cut.popped {C:Nat}{ct:ByteArray}{f k:Nat}{ms:List Mem}{os:List Opn}{o:Opn}{sa:Option Addr}{sc:Nat}{A:Nat->Prop}{w:World}(h:Cut C ct f k ms (os++[o]) sa sc A w):Cut C ct f k ms os sa sc A (w.setCell ⟨C,5,none⟩ (.slice sa os.length sc)):=by
 have hln:(os++[o]).length=os.length+1:=by simp
 have hlt:=h.own.lt;have hown:=h.own;have bg:(Value.slice sa (os++[o]).length sc).ownBlock=(Value.slice sa os.length sc).ownBlock:=by cases sa<;>rfl
 have hown':w.ownsRow (C+1) 253 3 (.slice sa os.length sc) os.length (zb8 ms os):=by
  rcases hown.2 with ⟨_,h0⟩|⟨g,cap,cur,hv,hg,hh,hc1,hc2,hc3,ht⟩
  ·rw[hln] at h0;omega
  ·have hsa:sa=some ⟨g,0,none⟩:=by injection hv
   have hsc:sc=cap:=by injection hv
   subst hsa hsc;refine⟨by rw[zbe],.inr ⟨g,sc,cur,rfl,hg,hh,by rw[hln] at hc1;omega,hc2,hc3,?_⟩⟩;have h1:=congrArg (List.take (os.length*3)) ht;rw[zjc,Qbc (by rw[zbe];omega),Qbj (l:=zb8 ms os) (by rw[zbe];omega),List.take_take] at h1;rw[<-h1,hln];congr 1
   omega
 refine⟨h.ch.set5,?_,?_,ownsRow_setCell_below hown' (by simp) _,?_,h.above,?_,?_,h.fk,h.kl,h.small,h.bytes,h.runs⟩
 ·intro e he;exact(h.kids e he).move (λx hx=>hx) (λx hx=>by
   have hd:=h.dead x hx;exact Below.heap_setCell _ _ _ _ (λ(e:x=C)=>hd.2.1 (by rw[e];exact Qx)))
 ·intro x hx;have hd:=h.dead x hx;rw[bg] at hd;exact⟨by simp[World.setCell];exact hd.1,hd.2⟩
 ·intro x hx;rw[<-bg];exact h.sep x hx
 ·intro x hx;exact h.inl x (List.mem_append_left _ hx)
 ·exact(List.pairwise_append.1 h.up).1
theorem zoa (C:Nat)(ct:ByteArray)(f k:Nat)(ms:List Mem)(os:List Opn)(o:Opn)(sa:Option Addr)(sc:Nat)(A:Nat->Prop)(w:World)(h:Cut C ct f k ms (os++[o]) sa sc A w)(hol:os.length<=1000000):Calls prog 236 #[.pointer (some ⟨C,5,none⟩)] w λe w'=>e=.returned (.tuple #[.agg #[.pointer ((ms[o.j]?).map Mem.ad),.bool o.image,.bool o.dead],.bool true])/\Cut C ct f k ms os sa sc A w'/\Fr [C] w w':=by
 have hcc:=h.cells;have hcl:=h.lt;have hln:(os++[o]).length=os.length+1:=by simp
 obtain⟨g,cap,hv,hg,hgl⟩:=h.own.form (by omega);have hsa:sa=some ⟨g,0,none⟩:=by injection hv
 have hcap:os.length+1<=sc:=by
  rcases h.own.2 with ⟨h1,h0⟩|⟨g',cap',cur,hv',_,_,hc1,_⟩
  ·rw[hln] at h0;omega
  ·have:sc=cap':=by injection hv'
   rw[hln] at hc1;omega
 have hcell:=λj u=>h.own.cells (g:=g) (by rw[hsa];rfl) j u;subst hsa;rw[hln] at hcc;have hadd:∀j,(⟨g,0,none⟩:Addr).add j=⟨g,j,none⟩:=λj=>by unfold Addr.add;split<;>simp_all
 have bg:∀i u,([Value.pointer ((ms[o.j]?).map Mem.ad),.bool o.image,.bool o.dead]:List Value)[i]?=some u->∀ob,w.cell? ⟨g,os.length*3+i,none⟩=some u/\(w.alloc ob).cell? ⟨g,os.length*3+i,none⟩=some u:=λi u hu ob=>by
  have:=hcell (os.length*3+i) u (by rw[zjc,Qu (by rw[zbe];omega),zbe,show os.length*3+i-os.length*3=i by omega];exact hu);rw[hadd] at this;exact⟨this,(zfw (Below.heap_alloc w ob g hgl) _).trans this⟩
 have c0:=λob=>(bg 0 _ rfl ob).2;have c1:=λob=>(bg 1 _ rfl ob).2;have c2:=λob=>(bg 2 _ rfl ob).2;rw[Nat.add_zero] at c0;have hne:(((os.length:Nat):Int)+1 == 0)=false:=by simp;omega
 clear bg hadd;clear hcell hv;have q5:w.cell? ⟨C,5,none⟩=some (.slice (some ⟨g,0,none⟩) (os.length+1) sc):=za0 hcc 5 _ rfl;have qf:=za7 hcc;have dh:∀o,(w.alloc o).cell? ⟨C,5,none⟩=some (.slice (some ⟨g,0,none⟩) (os.length+1) sc):=λo=>za0 ((Below.heap_alloc w o C hcl).trans hcc) 5 _ rfl;have hH:=hid h;clear h hcc;go_enter func236,ntmps236;go_wp2_with fail
 refine bodyPost_ret (v:=.tuple #[.agg #[.pointer ((ms[o.j]?).map Mem.ad),.bool o.image,.bool o.dead],.bool true]) (by simp[results,results236,go_sem]) rfl ⟨rfl,?_,?_⟩
 ·exact hH.out.popped.below ((Below.refl _ _).alloc (Qc _) _)
 ·exact((Fr.refl _ w).setCell _ (.inl (by simp)) _).alloc _
theorem zzr (C:Nat)(ct t:ByteArray)(im:Bool)(f k:Nat)(ms:List Mem)(os:List Opn)(sa:Option Addr)(sc:Nat)(A:Nat->Prop)(w:World)(h:Cut C ct f k ms os sa sc A w)(hk:k+t.size<=ct.size)(him:(t.toList == [33,91])=im)(hol:os.length<=1000000):Calls prog 204 #[.pointer (some ⟨C,0,none⟩),.string t] w λe w'=>∃m1 m2 sa' sc',e=.returned (.tuple #[])/\w.heap.size<=m1/\w.heap.size<=m2/\Cut C ct (k+t.size) (k+t.size) ((ms++zcu ct f k m1)++[⟨m2,zbk t.data.toList,none,none⟩]) (os++[⟨(ms++zcu ct f k m1).length,im,false⟩]) sa' sc' A w'/\Below C w w':=by
 have hcl:=h.lt;have hcc:=h.cells;have hsm:=h.small;have hL:=hid (zm2 C ct f k t.size ms os sa sc A (zbk t.data.toList) none none w h hk (by simp[zbk,Pt.text]) (by simp[zbk,Pt.rs]) .nil);subst him;rw[show zhq (zbk t.data.toList) none none=.agg #[.int .i64 8,.string ⟨#[]⟩,.string t,.pointer none,.pointer none,.int .i64 0,.bool false,.bool false] by simp only[zhq,zbk,Pt.kind,Pt.info,Pt.text,Pt.rs,Pt.ro,Pt.rc,S.zbp];rfl] at hL;have hH:=hid h;clear h hcc;go_enter func204,ntmps204;go_wp2_with fail
 refine hL.out.mono ?_;rintro e w1⟨m1,m2,rfl,hm1,hm2,bg,hf1⟩;have hP:=hid (λ(wx:World) (hx:Below w1.heap.size w1 wx)=>z0x C ct (k+t.size) (k+t.size) (ms++zcu ct f k m1) os sa sc A ⟨m2,zbk t.data.toList,none,none⟩ (t.toList == [33,91]) wx (bg.below hx) (λx hx=>by have:=hH.out.inl x hx;simp;omega) hol);have dh:=hid hf1;clear bg hf1;go_wp2_with fail
 refine(hP.out w1 (Below.refl _ _)).mono ?_;rintro e w2⟨sa',sc',rfl,hC2,hb2⟩;have hall:=hid (And.intro hC2 hb2);clear hC2 hb2;go_wp2;go_end0;exact⟨m1,m2,sa',sc',rfl,hm1,hm2,hall.out.1,(hH.out.zf6 dh.out).trans hall.out.2⟩
def Opn.kill (o:Opn):Opn:={ o with dead:=o.dead||!o.image }
theorem zg8 {w:World}{base:Nat}{e:TypeId}{size n:Nat}{v:Value}{xs:List Value}(h:w.ownsRow base e size v n xs){g:Nat}(hg:v.ownBlock=some g)(i:Nat)(u:Value):(w.setCell ⟨g,i,none⟩ u).ownsRow base e size v n (xs.set i u):=by
 rcases h.2 with ⟨rfl,_⟩|⟨g',cap,cur,rfl,hb,hh,hc1,hc2,hc3,ht⟩
 ·simp[Value.ownBlock] at hg
 ·have hgg:g'=g:=by simpa [Value.ownBlock] using hg
  subst hgg;refine⟨by rw[List.length_set];exact h.1,.inr ⟨g',cap,(cur.toList.set i u).toArray,rfl,hb,?_,hc1,hc2,by simp[hc3],?_⟩⟩
  ·exact za3 (cs:=cur.toList) (by simpa using hh) i u
  ·rw[<-ht];simp only;rw[List.take_set]
theorem z16 (g o:Nat)(im dd:Bool)(w:World)(h1:w.cell? ⟨g,o+1,none⟩=some (.bool im))(h2:w.cell? ⟨g,o+2,none⟩=some (.bool dd))(hf:w.frozen? ⟨g,o+2,none⟩=false):Calls prog 240 #[.pointer (some ⟨g,o,none⟩)] w λe w'=>e=.returned (.tuple #[])/\w'=w.setCell ⟨g,o+2,none⟩ (.bool (dd||!im)):=by
 go_enter func240,ntmps240;cases dd<;>cases im<;>go_wp2
 all_goals go_end0
 all_goals exact⟨rfl,rfl⟩
theorem zgv (ms:List Mem)(X Y:List Opn)(o:Opn):zb8 ms (X++o::Y)=zb8 ms X++(Value.pointer ((ms[o.j]?).map Mem.ad) :: .bool o.image :: .bool o.dead::zb8 ms Y):=by
 unfold zb8;rw[Qv,List.flatten_append];simp
def ownL (sa:Option Addr):List Nat:=match sa with
 | some a=>[a.block]
 | none=>[]
theorem Cut.killed {C:Nat}{ct:ByteArray}{f k g:Nat}{ms:List Mem}{X Y:List Opn}{o:Opn}{sc:Nat}{A:Nat->Prop}{w:World}(h:Cut C ct f k ms (X++o::Y) (some ⟨g,0,none⟩) sc A w):Cut C ct f k ms (X++o.kill::Y) (some ⟨g,0,none⟩) sc A (w.setCell ⟨g,X.length*3+2,none⟩ (.bool (o.dead||!o.image))):=by
 have hln:(X++o.kill::Y).length=(X++o::Y).length:=by simp
 have bg:∀n,(Value.slice (some (⟨g,0,none⟩:Addr)) n sc).ownBlock=some g:=λ_=>rfl;have hlt:=h.own.lt g (bg _);have hset:zb8 ms (X++o.kill::Y)=(zb8 ms (X++o::Y)).set (X.length*3+2) (.bool (o.dead||!o.image)):=by
  rw[zgv,zgv,List.set_append_right _ _ (by rw[zbe];omega),zbe,show X.length*3+2-X.length*3=2 by omega];rfl
 have hne:∀x,some x≠some g->x≠g:=λx hx e=>hx (by rw[e]);refine⟨?_,?_,?_,?_,?_,h.above,?_,?_,h.fk,h.kl,h.small,h.bytes,h.runs⟩
 ·rw[hln];exact h.ch.move (λx hx=>Below.heap_setCell _ _ _ _ (by
   rcases List.mem_cons.1 hx with rfl|hx
   ·show x≠g;omega
   ·exact hne x (h.sep x hx)))
 ·intro e he;exact(h.kids e he).move (λx hx=>hx) (λx hx=>Below.heap_setCell _ _ _ _ (hne x (h.dead x hx).2.2))
 ·intro x hx;have hd:=h.dead x hx;exact⟨by simp[World.setCell];exact hd.1,hd.2⟩
 ·rw[hln,hset];exact zg8 h.own (bg _) _ _
 ·intro x hx;exact h.sep x hx
 ·intro x hx;rcases Qbh.1 hx with hx|hx
  ·exact h.inl x (List.mem_append_left _ hx)
  ·rcases List.mem_cons.1 hx with rfl|hx
   ·exact h.inl o (by simp)
   ·exact h.inl x (by simp[hx])
 ·have hu:=List.pairwise_append.1 h.up;have hc:=List.pairwise_cons.1 hu.2.1;refine List.pairwise_append.2 ⟨hu.1,List.pairwise_cons.2 ⟨hc.1,hc.2⟩,λx hx y hy=>?_⟩;rcases List.mem_cons.1 hy with rfl|hy
  ·exact hu.2.2 x hx o (by simp)
  ·exact hu.2.2 x hx y (by simp[hy])
theorem zun (C:Nat)(ct:ByteArray)(f k:Nat)(ms:List Mem)(os:List Opn)(sa:Option Addr)(sc:Nat)(A:Nat->Prop)(w:World)(h:Cut C ct f k ms os sa sc A w)(hol:os.length<=1000000):Calls prog 239 #[.pointer (some ⟨C,5,none⟩),.func (.func 240) #[] #[]] w λe w'=>e=.returned (.tuple #[])/\Cut C ct f k ms (os.map Opn.kill) sa sc A w'/\Fr (ownL sa) w w':=by
 have hcc:=h.cells;have hcl:=h.lt;have q5:w.cell? ⟨C,5,none⟩=some (.slice sa os.length sc):=za0 hcc 5 _ rfl;have hH:=hid h;clear h hcc;go_enter func239,ntmps239;go_wp2_with fail
 go_loopg [10] os.length (λn i wr=>∃X Y,os=X++Y/\n=Y.length/\i=.int .i64 (X.length:Nat)/\Cut C ct f k ms (X.map Opn.kill++Y) sa sc A wr/\Fr (ownL sa) w wr)
 case atStart=>exact⟨[],os,rfl,rfl,rfl,hH.out,Fr.refl _ _⟩
 case round=>
  obtain⟨X,Y,hos,rfl,rfl,hC,hfr⟩:=hrel;have bg:os.length=X.length+Y.length:=by rw[hos];simp
  have hCH:=hid hC;have dx:=hid hfr;cases Y with
  | nil=>
   clear hC hfr;simp only[Qi,Nat.add_zero] at bg;have hlt:¬((X.length:Int)<(os.length:Int)):=by omega
   go_wp2;go_end0;have:=hCH.out;rw[Qbk] at this;exact⟨rfl,this,dx.out⟩
  | cons o Y=>
   have hlt:((X.length:Int)<(os.length:Int)):=by rw[bg];simp;omega
   have fq:X.length<os.length:=by rw[bg];simp
   have hln:(X.map Opn.kill++o::Y).length=os.length:=by rw[bg];simp
   obtain⟨g,cap,hv,hg,hgl⟩:=hC.own.form (by omega);have hsa:sa=some ⟨g,0,none⟩:=by injection hv
   subst hsa;have hcc:=hC.cells;rw[hln] at hcc;have q5:wr.cell? ⟨C,5,none⟩=some (.slice (some ⟨g,0,none⟩) os.length sc):=za0 hcc 5 _ rfl;have hadd:∀j,(⟨g,0,none⟩:Addr).add j=⟨g,j,none⟩:=λj=>by unfold Addr.add;split<;>simp_all
   have dh:∀i u,([Value.pointer ((ms[o.j]?).map Mem.ad),.bool o.image,.bool o.dead]:List Value)[i]?=some u->wr.cell? ⟨g,X.length*3+i,none⟩=some u:=λi u hu=>by
    have:=hC.own.cells (g:=g) rfl (X.length*3+i) u (by
     rw[zgv,Qu (by rw[zbe,List.length_map];omega),zbe,List.length_map,show X.length*3+i-X.length*3=i by omega];have hi:i<3:=(Qb.1 hu).1;rw[<-hu];rcases i with _|_|_|i<;>first|rfl|omega)
    rw[hadd] at this;exact this
   have hfz:wr.frozen? ⟨g,X.length*3+2,none⟩=false:=by
    rcases hC.own.2 with ⟨h1,h0⟩|⟨g',cap',cur,hv',_,hh,_⟩
    ·rw[hln] at h0;omega
    ·have:g=g':=by injection hv' with h1;injection h1 with h2;injection h2
     subst this;exact za7 hh _
   have hK:=hid (z16 g (X.length*3) o.image o.dead wr (dh 1 _ rfl) (dh 2 _ rfl) hfz);clear hC hfr hcc dh hadd hv;have dw:=hid hos;clear hos bg;go_wp2_with (fail);refine hK.out.mono ?_;rintro e w'⟨rfl,rfl⟩;go_wp2;go_roundg Y.length
   case rel=>
    refine⟨X++[o],Y,by rw[dw.out];simp,rfl,by simp,?_,dx.out.setCell _ (.inl (by simp[ownL])) _⟩;have:=hCH.out.killed;rw[List.length_map] at this;rw[Qv];simpa using this
   case measure=>simp
theorem zv9 (C:Nat)(ct:ByteArray)(f k:Nat)(ms:List Mem)(sa:Option Addr)(sc:Nat)(A:Nat->Prop)(w:World)(h:Cut C ct f k ms [] sa sc A w):Calls prog 203 #[.pointer (some ⟨C,0,none⟩)] w λe w'=>e=.returned (.bool false)/\Below w.heap.size w w':=by
 have hP:=hid (λ(wx:World) (hx:Below w.heap.size w wx)=>z18 C ct f k ms sa sc A wx (h.below hx));clear h;go_enter func203,ntmps203;go_wp2_with fail
 refine(hP.out _ (by first|exact Below.refl _ _|exact(Below.refl _ _).drew|exact(Below.refl _ _).alloc (Qc _) _)).mono ?_
 rintro e w1⟨rfl,hb1⟩;have bg:=hid hb1;clear hb1;go_wp2;go_ret;exact⟨rfl,bg.out.alloc bg.out.size _⟩
theorem zvb (C:Nat)(ct:ByteArray)(f k:Nat)(ms:List Mem)(os:List Opn)(o:Opn)(sa:Option Addr)(sc:Nat)(A:Nat->Prop)(w:World)(h:Cut C ct f k ms (os++[o]) sa sc A w)(hol:os.length<=1000000)(hd:o.dead=true):Calls prog 203 #[.pointer (some ⟨C,0,none⟩)] w λe w'=>e=.returned (.bool false)/\Cut C ct f k ms os sa sc A w'/\Below C w w':=by
 have hcl:=h.lt;have hP:=hid (zoa C ct f k ms os o sa sc A w h hol);rw[hd] at hP;have hH:=hid h;clear h;go_enter func203,ntmps203;go_wp2_with fail
 refine hP.out.mono ?_;rintro e w1⟨rfl,bg,hf1⟩;have hall:=hid (And.intro bg hf1);clear bg hf1;go_wp2;go_ret;have hb:Below C w w1:=hall.out.2.below (Nat.le_of_lt hcl) (by simp);exact⟨rfl,hall.out.1.below ((Below.refl _ _).alloc (Qc _) _),hb.alloc (by have:=hb.size;omega) _⟩
theorem zvs (C:Nat)(ct:ByteArray)(f k:Nat)(ms:List Mem)(os:List Opn)(o:Opn)(sa:Option Addr)(sc:Nat)(A:Nat->Prop)(w:World)(h:Cut C ct f k ms (os++[o]) sa sc A w)(hol:os.length<=1000000)(hd:o.dead=false)(hk:k+1<=ct.size)(hok:S.zd5 (ct.data.toList.drop (k+1))=false):Calls prog 203 #[.pointer (some ⟨C,0,none⟩)] w λe w'=>e=.returned (.bool false)/\Cut C ct f k ms os sa sc A w'/\Below C w w':=by
 have hcl:=h.lt;have hsm:=h.small;have hP:=hid (zoa C ct f k ms os o sa sc A w h hol);rw[hd] at hP;have hz:(ct.extract (k+1) ct.size).size=ct.size-(k+1):=by simp
 have gy:Hid (∀wx,Calls prog 237 #[.string (ct.extract (k+1) ct.size)] wx λe w'=>∃r:ByteArray,e=.returned (.tuple #[.string r,.bool false])/\Below wx.heap.size wx w'):=hid (λwx=>by
  have:=zix (ct.extract (k+1) ct.size) wx (by omega);rw[zbi,hok] at this;exact this.mono (λe w' ⟨r,h1,h2,h3⟩=>⟨r,h1,h3⟩))
 have hH:=hid h;clear h;go_enter func203,ntmps203;go_wp2_with fail
 refine hP.out.mono ?_;rintro e w1⟨rfl,dh,hf1⟩;have hcc:=dh.cells;have hl1:=dh.lt;have q0:w1.cell? ⟨C,0,none⟩=some (.string ct):=za0 hcc 0 _ rfl;have q2:w1.cell? ⟨C,2,none⟩=some (.int .i64 (k:Nat)):=za0 hcc 2 _ rfl;have fq:∀ob,(w1.alloc ob).cell? ⟨C,0,none⟩=some (.string ct):=λob=>za0 ((Below.heap_alloc w1 ob C hl1).trans hcc) 0 _ rfl;have dx:∀ob,(w1.alloc ob).cell? ⟨C,2,none⟩=some (.int .i64 (k:Nat)):=λob=>za0 ((Below.heap_alloc w1 ob C hl1).trans hcc) 2 _ rfl;have hall:=hid (And.intro dh hf1);clear dh hf1 hcc;go_wp2_with fail
 obtain⟨W,hW⟩:=Qzz (w1.alloc (.cells #[.pointer ((ms[o.j]?).map Mem.ad),.bool o.image,.bool false] 253));have hbW:Hid (Below w1.heap.size w1 W):=hid (by rw[hW];exact(Below.refl _ _).alloc (Qc _) _);have k0:W.cell? ⟨C,0,none⟩=some (.string ct):=by rw[hW];exact fq _
 have k2:W.cell? ⟨C,2,none⟩=some (.int .i64 (k:Nat)):=by rw[hW];exact dx _
 have gq:C<W.heap.size:=Qh hl1 hbW.out.size;have hI0:(0:Int)<=(k:Int)+1:=by omega
 have hI1:(k:Int)+1<=(ct.size:Int):=by omega
 have hI2:((k:Int)+1).toNat=k+1:=by omega
 have jh:(k:Int)<(ct.size:Int):=by omega
 have jg:k<ct.size:=by omega
 have jd:IntKind.i64.wrap ((k:Int)+1)=(k:Int)+1:=by rw[IntKind.wrap_i64];omega
 rw[<-hW];clear hW q0 q2 fq dx;go_region_held3 (λw'=>w'.cell? ⟨C,0,none⟩=some (.string ct)/\w'.cell? ⟨C,2,none⟩=some (.int .i64 (k:Nat)))
  ((refine⟨?_,?_⟩<;>(first|assumption|with_reducible exact k0|with_reducible exact k2)))
  ((go_at_call 237;refine(gy.out W.drew).mono ?_;rintro e w2⟨r,rfl,hb2⟩;have j0:=(hb2.cell (p:=⟨C,0,none⟩) gq).trans k0;have j2:=(hb2.cell (p:=⟨C,2,none⟩) gq).trans k2))
 have dw:=hid hb2;clear hb2;go_wp2;go_ret;have hb:Below C w w1:=hall.out.2.below (Nat.le_of_lt hcl) (by simp);have bg:Below w1.heap.size w1 w2:=hbW.out.trans ((Below.refl _ W).drew.trans dw.out |>.mono hbW.out.size);exact⟨rfl,hall.out.1.below bg,hb.trans (bg.mono (by have:=hb.size;omega))⟩
theorem zr7 (C:Nat)(ct:ByteArray)(f k:Nat)(x3 x4 x5:Value)(w:World)(h:w.heap[C]?=some (.cells [.string ct,.int .i64 (f:Nat),.int .i64 (k:Nat),x3,x4,x5].toArray 168 (0,0)))(hk:k<=ct.size)(hp:Lib.hasPrefix (ct.data.toList.drop k) [93]=true)(R:Bool->World->Prop)
  (hc:Calls prog 203 #[.pointer (some ⟨C,0,none⟩)] w.drew λe w'=>∃b,e=.returned (.bool b)/\R b w') :
  Calls prog 158 #[.pointer (some ⟨C,0,none⟩)] w λe w'=>∃b,e=.returned (.bool b)/\R b w':=by
 have h1:=hid (zdm C ct ⟨#[93]⟩ f k x3 x4 x5 w h hk);rw[show (⟨#[93]⟩:ByteArray).data.toList=[93] from rfl,hp] at h1;have bg:=hid hc;clear h hc;go_enter func158,ntmps158;go_wp2_with fail
 refine h1.out.mono ?_;rintro e w'⟨rfl,rfl⟩;go_wp2_with fail
 refine bg.out.mono ?_;rintro e w'⟨b,rfl,hR⟩;go_wp2;go_ret;exact⟨b,rfl,hR⟩
theorem zqg (C:Nat)(ct:ByteArray)(f k:Nat)(x3 x4 x5:Value)(w:World)(h:w.heap[C]?=some (.cells [.string ct,.int .i64 (f:Nat),.int .i64 (k:Nat),x3,x4,x5].toArray 168 (0,0)))(hk:k<=ct.size)(hp:Lib.hasPrefix (ct.data.toList.drop k) [93]=false)(hq:Lib.hasPrefix (ct.data.toList.drop k) [91]=true)(R:World->Prop)
  (hc:Calls prog 204 #[.pointer (some ⟨C,0,none⟩),.string ⟨#[91]⟩] w.drew.drew λe w'=>e=.returned (.tuple #[])/\R w') :
  Calls prog 158 #[.pointer (some ⟨C,0,none⟩)] w λe w'=>e=.returned (.bool true)/\R w':=by
 have h1:=hid (zdm C ct ⟨#[93]⟩ f k x3 x4 x5 w h hk);have h2:=hid (zdm C ct ⟨#[91]⟩ f k x3 x4 x5 w.drew h hk);rw[show (⟨#[93]⟩:ByteArray).data.toList=[93] from rfl,hp] at h1;rw[show (⟨#[91]⟩:ByteArray).data.toList=[91] from rfl,hq] at h2;have bg:=hid hc;clear h hc;go_enter func158,ntmps158;go_wp2_with fail
 refine h1.out.mono ?_;rintro e w'⟨rfl,rfl⟩;go_wp2_with fail
 refine h2.out.mono ?_;rintro e w'⟨rfl,rfl⟩;go_wp2_with fail
 refine bg.out.mono ?_;rintro e w'⟨rfl,hR⟩;go_wp2;go_ret;exact⟨rfl,hR⟩
theorem zom (C:Nat)(ct:ByteArray)(f k:Nat)(x3 x4 x5:Value)(w:World)(h:w.heap[C]?=some (.cells [.string ct,.int .i64 (f:Nat),.int .i64 (k:Nat),x3,x4,x5].toArray 168 (0,0)))(hk:k<=ct.size)(hp:Lib.hasPrefix (ct.data.toList.drop k) [93]=false)(hq:Lib.hasPrefix (ct.data.toList.drop k) [91]=false)(hr:Lib.hasPrefix (ct.data.toList.drop k) [33,91]=true)(R:World->Prop)
  (hc:Calls prog 204 #[.pointer (some ⟨C,0,none⟩),.string ⟨#[33,91]⟩] w.drew.drew.drew λe w'=>e=.returned (.tuple #[])/\R w') :
  Calls prog 158 #[.pointer (some ⟨C,0,none⟩)] w λe w'=>e=.returned (.bool true)/\R w':=by
 have h1:=hid (zdm C ct ⟨#[93]⟩ f k x3 x4 x5 w h hk);have h2:=hid (zdm C ct ⟨#[91]⟩ f k x3 x4 x5 w.drew h hk);have h3:=hid (zdm C ct ⟨#[33,91]⟩ f k x3 x4 x5 w.drew.drew h hk);rw[show (⟨#[93]⟩:ByteArray).data.toList=[93] from rfl,hp] at h1;rw[show (⟨#[91]⟩:ByteArray).data.toList=[91] from rfl,hq] at h2;rw[show (⟨#[33,91]⟩:ByteArray).data.toList=[33,91] from rfl,hr] at h3;have bg:=hid hc;clear h hc;go_enter func158,ntmps158;go_wp2_with fail
 refine h1.out.mono ?_;rintro e w'⟨rfl,rfl⟩;go_wp2_with fail
 refine h2.out.mono ?_;rintro e w'⟨rfl,rfl⟩;go_wp2_with fail
 refine h3.out.mono ?_;rintro e w'⟨rfl,rfl⟩;go_wp2_with fail
 refine bg.out.mono ?_;rintro e w'⟨rfl,hR⟩;go_wp2;go_ret;exact⟨rfl,hR⟩
theorem zql (C:Nat)(ct:ByteArray)(f k:Nat)(x3 x4 x5:Value)(w:World)(h:w.heap[C]?=some (.cells [.string ct,.int .i64 (f:Nat),.int .i64 (k:Nat),x3,x4,x5].toArray 168 (0,0)))(hk:k<=ct.size)(hp:Lib.hasPrefix (ct.data.toList.drop k) [93]=false)(hq:Lib.hasPrefix (ct.data.toList.drop k) [91]=false)(hr:Lib.hasPrefix (ct.data.toList.drop k) [33,91]=false):Calls prog 158 #[.pointer (some ⟨C,0,none⟩)] w λe w'=>e=.returned (.bool false)/\Below w.heap.size w w':=by
 have h1:=hid (zdm C ct ⟨#[93]⟩ f k x3 x4 x5 w h hk);have h2:=hid (zdm C ct ⟨#[91]⟩ f k x3 x4 x5 w.drew h hk);have h3:=hid (zdm C ct ⟨#[33,91]⟩ f k x3 x4 x5 w.drew.drew h hk);rw[show (⟨#[93]⟩:ByteArray).data.toList=[93] from rfl,hp] at h1;rw[show (⟨#[91]⟩:ByteArray).data.toList=[91] from rfl,hq] at h2;rw[show (⟨#[33,91]⟩:ByteArray).data.toList=[33,91] from rfl,hr] at h3;clear h;go_enter func158,ntmps158;go_wp2_with fail
 refine h1.out.mono ?_;rintro e w'⟨rfl,rfl⟩;go_wp2_with fail
 refine h2.out.mono ?_;rintro e w'⟨rfl,rfl⟩;go_wp2_with fail
 refine h3.out.mono ?_;rintro e w'⟨rfl,rfl⟩;go_wp2;go_ret;exact⟨rfl,(Below.refl _ _).drew.drew.drew⟩
theorem zrk (C:Nat)(T:Nat)(cs:List Value)(P M:List Mem)(a:Mem)(w:World)(h:Ch w C 3 T cs (P++a::M)):Calls prog 238 #[.pointer (some ⟨C,3,none⟩),.pointer (some ⟨a.m,0,none⟩),.pointer none] w λe w'=>e=.returned (.agg #[.pointer (hd M none),.pointer (lst M none)])/\Ch w' C 3 T cs (P++[a])/\Seg w' none M none/\Fr (C::blks (P++a::M)) w w':=by
 cases M with
 | nil=>
  have hs:=h.seg;rw[seg_append] at hs;have ha:=hs.2.cells;refine(zq5 C 3 a [] w (za0 ha 9 _ rfl) (h.mlt a.m (by simp[blks]))).mono ?_;rintro e w'⟨rfl,hb⟩;refine⟨rfl,h.move (λx hx=>hb.block x ?_),trivial,Fr.zii hb⟩;rcases List.mem_cons.1 hx with rfl|hx
  ·exact h.lt
  ·exact h.mlt x hx
 | cons m0 M=>exact z0e C 3 T cs P M a m0 w h
theorem zos (P M:List Mem)(a:Mem)(os:List Opn)(h:∀x∈os,x.j<P.length):zb8 (P++[a]) os=zb8 (P++a::M) os:=by
 rw[zd9 _ _ _ h,zd9 _ _ _ h]
theorem Cut.taken {C:Nat}{ct:ByteArray}{f k:Nat}{P M:List Mem}{a:Mem}{os:List Opn}{sa:Option Addr}{sc:Nat}{A:Nat->Prop}{w w':World}(h:Cut C ct f k (P++a::M) os sa sc A w)(hj:∀x∈os,x.j<P.length)(hc:Ch w' C 3 168 (zbq ct f k (.slice sa os.length sc)) (P++[a]))(hf:Fr (C::blks (P++a::M)) w w'):Cut C ct f k (P++[a]) os sa sc A w':=by
 have hlt:=h.own.lt;have hsub:∀x∈blks (P++[a]),x∈blks (P++a::M):=λx hx=>by
  rw[zce] at hx ⊢;simp[blks] at hx ⊢;rcases hx with hx|hx
  ·exact .inl hx
  ·exact .inr (.inl hx)
 have hown:w'.ownsRow (C+1) 253 3 (.slice sa os.length sc) os.length (zb8 (P++[a]) os):=by
  rw[zos P M a os hj];rcases h.own.2 with h2|⟨g,cap,cur,hv,hg,hh,r'⟩
  ·exact⟨h.own.1,.inl h2⟩
  ·refine⟨h.own.1,.inr ⟨g,cap,cur,hv,hg,?_,r'⟩⟩;have hgo:(Value.slice sa os.length sc).ownBlock=some g:=by rw[hv];rfl
   rw[hf.block g (hlt g hgo).2 (λhm=>by
    rcases List.mem_cons.1 hm with hm|hm
    ·have:=(hlt g hgo).1;omega
    ·exact h.sep g hm hgo.symm)]
   exact hh
 have hmem:∀x∈P++[a],x∈P++a::M:=λx hx=>by
  rcases Qbh.1 hx with hx|hx
  ·exact List.mem_append_left _ hx
  ·simp at hx;subst hx;simp
 refine⟨hc,?_,?_,hown,λx hx=>h.sep x (hsub x hx),λx hx=>h.above x (hsub x hx),λx hx=>by have:=hj x hx;simp;omega,h.up,h.fk,h.kl,h.small,?_,λx hx=>h.runs x (hmem x hx)⟩
 ·intro e he;exact(h.kids e (hmem e he)).move (λx hx=>hx) (λx hx=>hf.block x (h.dead x hx).1 (h.dead x hx).2.1)
 ·intro x hx;have hd:=h.dead x hx;exact⟨Qh hd.1 hf.size,λhm=>hd.2.1 (by
   rcases List.mem_cons.1 hm with rfl|hm
   ·exact Qx
   ·exact Qo _ (hsub x hm)),hd.2.2⟩
 ·have hb:=h.bytes;rw[show P++a::M=(P++[a])++M by simp,Qv,zeb] at hb;omega
theorem Ch.zzu {w w':World}{C T:Nat}{cs:List Value}{P:List Mem}{a a':Mem}(h:Ch w C 3 T cs (P++[a]))(hm:a'.m=a.m)(hb:w'.heap[a.m]?=some (.cells (zcz a' (lst P none) none).toArray 179 (0,0)))(ho:∀x,x∈C::blks (P++[a])->x≠a.m->w'.heap[x]?=w.heap[x]?):Ch w' C 3 T cs (P++[a']):=by
 have hbl:blks (P++[a'])=blks (P++[a]):=by simp[blks,hm]
 have hs:=(seg_append _ _ _ _ _).1 h.seg;have hnd:=h.nodup;have had:a'.ad=a.ad:=by simp[Mem.ad,hm]
 have dh:C≠a.m:=λe=>h.out (by rw[e];simp[blks]);have bg:∀e∈P,e.m≠a.m:=λe he e1=>by
  rw[zac] at hnd;exact(List.nodup_append.1 hnd).2.2 e.m (List.mem_map_of_mem he) a.m (by simp[blks]) e1
 refine⟨(seg_append _ _ _ _ _).2 ⟨?_,?_⟩,?_,by rw[hbl];exact hnd,by rw[hbl];exact h.out⟩
 ·have h1:Seg w' none P (hd [a] none):=hs.1.move (λe he=>ho e.m (Qo _ (by simp[blks];exact .inl ⟨e,he,rfl⟩)) (bg e he));have:hd [a'] none=hd [a] none:=by simp[hd,had]
  rw[this];exact h1
 ·refine⟨?_,trivial⟩;rw[hm];exact hb
 ·have h1:=h.hdr.move (ho C Qx dh);have e1:hd (P++[a']) none=hd (P++[a]) none:=by rw[zd8,zd8];simp[hd,had]
  have e2:lst (P++[a']) none=lst (P++[a]) none:=by rw[zcp,zcp,had]
  rw[e1,e2];exact h1
theorem Cut.sealed {C:Nat}{ct:ByteArray}{f k:Nat}{P:List Mem}{a a':Mem}{os:List Opn}{sa:Option Addr}{sc:Nat}{A A':Nat->Prop}{w w':World}(h:Cut C ct f k (P++[a]) os sa sc A w)(hj:∀x∈os,x.j<P.length)(hm:a'.m=a.m)(hf:Fr [a.m] w w')(hb:w'.heap[a.m]?=some (.cells (zcz a' (lst P none) none).toArray 179 (0,0)))
  (hA:∀x,A x->A' x) (hA':∀x,A' x->x<w.heap.size/\x ∉ C::blks (P++[a])/\some x≠(Value.slice sa os.length sc).ownBlock) (hk:KRep w A' a'.kf a'.p.kids) (ht:a'.p.text=[]) (hr:a'.p.rs=0):Cut C ct f k (P++[a']) os sa sc A' w':=by
 have hbl:blks (P++[a'])=blks (P++[a]):=by simp[blks,hm]
 have hlt:=h.own.lt;have hin:a.m∈blks (P++[a]):=by simp[blks]
 have hown:w'.ownsRow (C+1) 253 3 (.slice sa os.length sc) os.length (zb8 (P++[a']) os):=by
  rw[zd9 _ _ _ hj];have h0:=h.own;rw[zd9 _ _ _ hj] at h0;rcases h0.2 with h2|⟨g,cap,cur,hv,hg,hh,r'⟩
  ·exact⟨h0.1,.inl h2⟩
  ·refine⟨h0.1,.inr ⟨g,cap,cur,hv,hg,?_,r'⟩⟩;have hgo:(Value.slice sa os.length sc).ownBlock=some g:=by rw[hv];rfl
   rw[hf.block g (hlt g hgo).2 (λhm=>by
    simp at hm;rw[hm] at hgo;exact h.sep a.m hin hgo.symm)]
   exact hh
 have hkeep:∀x,A' x->w'.heap[x]?=w.heap[x]?:=λx hx=>hf.block x (hA' x hx).1 (λhm=>(hA' x hx).2.1 (by simp at hm;rw[hm];exact Qo _ hin));refine⟨h.ch.zzu hm hb (λx hx hne=>hf.block x ?_ (by simpa using hne)),?_,?_,hown,by rw[hbl];exact h.sep,by rw[hbl];exact h.above,λx hx=>by have:=hj x hx;simp;omega,h.up,h.fk,h.kl,h.small,?_,?_⟩
 ·rcases List.mem_cons.1 hx with rfl|hx
  ·exact h.lt
  ·exact h.ch.mlt x hx
 ·intro e he;rcases Qbh.1 he with he|he
  ·exact(h.kids e (List.mem_append_left _ he)).move hA (λx hx=>hkeep x (hA x hx))
  ·simp at he;subst he;exact hk.move (λx hx=>hx) hkeep
 ·intro x hx;have hd:=hA' x hx;rw[hbl];exact⟨Qh hd.1 hf.size,hd.2⟩
 ·have hb0:=h.bytes;rw[Qv,zeb] at hb0 ⊢;simp[txt,ht] at hb0 ⊢;omega
 ·intro x hx;rcases Qbh.1 hx with hx|hx
  ·exact h.runs x (List.mem_append_left _ hx)
  ·simp at hx;subst hx;omega
def jumps (J:Nat->Act->World->Prop)(Q:Exit->Act->World->Prop):Exit->Act->World->Prop
 | .goto l,a,w=>J l a w
 | e,a,w=>Q e a w
theorem zmi {P:Program}{a:Act}{w:World}{Q:Exit->Act->World->Prop}{c:Code}(R:Nat->Code)(J:Nat->Act->World->Prop)(μ:Nat->Act->World->Nat)(hR:∀l a w,J l a w->findLabel c l=some (R l))
  (first:c.wp P (jumps J Q) a w) (pass:∀l a w,J l a w->(R l).wp P (jumps (λl' a' w'=>J l' a' w'/\μ l' a' w' < μ l a w) Q) a w):(Code.scope c).wp P Q a w:=by
 intro b k cs;have hg:∀l a w,J l a w->gotoIn l (.inScope c::k)=some (.code (R l) :: .inScope c::k):=λl a w h=>by simp[gotoIn,hR l a w h]
 have key:∀n l a w,μ l a w<n->J l a w->∃e a' w',Q e a' w'/\Arrives P (lone (b.at a (.code (R l) :: .inScope c::k)) cs w) b k cs e a' w':=by
  intro n;induction n with
  | zero=>intro l a w h;omega
  | succ n ih=>
   intro l a w hn hJ;obtain⟨e,a1,w1,hq,harr⟩:=pass l a w hJ b (.inScope c::k) cs;match e,hq,harr with
   | .normal,hq,harr=>exact⟨_,a1,w1,hq,Steps.trans harr (.one step_inScope)⟩
   | .exit id,hq,harr=>exact⟨.exit id,a1,w1,hq,λk' hk=>harr k' (by simp[exitTo,hk])⟩
   | .goto l',hq,harr=>
    obtain⟨e2,a2,w2,hq2,bg⟩:=ih l' a1 w1 (by have:=hq.2;omega) hq.1;exact⟨e2,a2,w2,hq2,.of_steps (harr _ (hg l' a1 w1 hq.1)) bg⟩
   | .ret,hq,harr=>exact⟨_,a1,w1,hq,harr⟩
   | .panic _,hq,harr=>exact⟨_,a1,w1,hq,harr⟩
   | .outgrown,hq,harr=>exact⟨_,a1,w1,hq,harr⟩
 obtain⟨e,a1,w1,hq,harr⟩:=first b (.inScope c::k) cs
 match e,hq,harr with
 | .normal,hq,harr=>exact⟨_,a1,w1,hq,.head step_scope (Steps.trans harr (.one step_inScope))⟩
 | .exit id,hq,harr=>exact⟨.exit id,a1,w1,hq,λk' hk=>.head step_scope (harr k' (by simp[exitTo,hk]))⟩
 | .goto l',hq,harr=>
  obtain⟨e2,a2,w2,hq2,bg⟩:=key _ l' a1 w1 (Nat.lt_succ_self _) hq;exact⟨e2,a2,w2,hq2,.of_steps (.head step_scope (harr _ (hg l' a1 w1 hq))) bg⟩
 | .ret,hq,harr=>exact⟨_,a1,w1,hq,.of_steps (.one step_scope) harr⟩
 | .panic _,hq,harr=>exact⟨_,a1,w1,hq,.of_steps (.one step_scope) harr⟩
 | .outgrown,hq,harr=>exact⟨_,a1,w1,hq,.of_steps (.one step_scope) harr⟩
theorem Cut.frame {C:Nat}{ct:ByteArray}{f k:Nat}{ms:List Mem}{os:List Opn}{sa:Option Addr}{sc:Nat}{A:Nat->Prop}{w w':World}{L:List Nat}(h:Cut C ct f k ms os sa sc A w)(hf:Fr L w w')(hL:∀x∈L,x ∉ C::blks ms/\¬A x/\some x≠(Value.slice sa os.length sc).ownBlock):Cut C ct f k ms os sa sc A w':=by
 have hlt:=h.own.lt;have hown:w'.ownsRow (C+1) 253 3 (.slice sa os.length sc) os.length (zb8 ms os):=by
  rcases h.own.2 with h2|⟨g,cap,cur,hv,hg,hh,r'⟩
  ·exact⟨h.own.1,.inl h2⟩
  ·refine⟨h.own.1,.inr ⟨g,cap,cur,hv,hg,?_,r'⟩⟩;have hgo:(Value.slice sa os.length sc).ownBlock=some g:=by rw[hv];rfl
   rw[hf.block g (hlt g hgo).2 (λhm=>(hL g hm).2.2 hgo.symm)];exact hh
 refine⟨h.ch.move (λx hx=>hf.block x ?_ (λhm=>(hL x hm).1 hx)),λe he=>(h.kids e he).move (λx hx=>hx) (λx hx=>hf.block x (h.dead x hx).1 (λhm=>(hL x hm).2.1 hx)),λx hx=>⟨Qh (h.dead x hx).1 hf.size,(h.dead x hx).2⟩,hown,h.sep,h.above,h.inl,h.up,h.fk,h.kl,h.small,h.bytes,h.runs⟩;rcases List.mem_cons.1 hx with rfl|hx
 ·exact h.lt
 ·exact h.ch.mlt x hx
def madeCells (kd:Int)(r:ByteArray):List Value:=[.int .i64 kd,.string r,.string ⟨#[]⟩,undef,undef,.int .i64 0,.bool false,.bool false]
structure zxw (C b K:Nat)(ct r:ByteArray)(P Q:List Mem)(a:Mem)(os:List Opn)(sa:Option Addr)(sc:Nat)(A:Nat->Prop)(w:World):Prop where
 cut:Cut C ct K K (P++[a]) os sa sc A w
 ch:Ch w b 3 177 (madeCells 13 r) Q
 kids:Kd w A Q
 dead:∀x,A x->x<w.heap.size/\x ∉ b::blks Q
 txt:txt (Q.map Mem.p)<=1000000
 runs:∀x∈Q,x.p.rs<=1000000
 sep:∀x∈b::blks Q,x ∉ C::blks (P++[a])/\¬A x/\some x≠(Value.slice sa os.length sc).ownBlock
theorem zz5 {C b K:Nat}{ct r:ByteArray}{P Q:List Mem}{a:Mem}{os:List Opn}{sa:Option Addr}{sc:Nat}{A:Nat->Prop}{w3 W4:World}(h:Cut C ct K K (P++a::Q) os sa sc A w3)(hup:∀x∈os,x.j<P.length)(hc:Ch W4 C 3 168 (zbq ct K K (.slice sa os.length sc)) (P++[a]))(hs:Seg W4 none Q none)(hf:Fr (C::blks (P++a::Q)) w3 W4)(hb:W4.heap[b]?=some (.cells #[.int .i64 13,.string r,.string ⟨#[]⟩,.pointer (hd Q none),.pointer (lst Q none),.int .i64 0,.bool false,.bool false] 177 (0,0)))(hbz:w3.heap.size<=b):zxw C b K ct r P Q a os sa sc A W4:=by
 have hnd:=h.ch.nodup;rw[show P++a::Q=(P++[a])++Q by simp,zac] at hnd;have hnd':=List.nodup_append.1 hnd;have hin:∀x∈blks Q,x∈blks (P++a::Q):=λx hx=>by rw[show P++a::Q=(P++[a])++Q by simp,zac];exact List.mem_append_right _ hx
 have hin2:∀x∈blks (P++[a]),x∈blks (P++a::Q):=λx hx=>by rw[show P++a::Q=(P++[a])++Q by simp,zac];exact List.mem_append_left _ hx
 have hlt:∀x∈blks (P++a::Q),x<w3.heap.size:=λx hx=>h.ch.mlt x hx;have hmem:∀e∈Q,e∈P++a::Q:=λe he=>by simp[he]
 refine⟨h.taken hup hc hf,⟨hs,⟨hb,by show 3+1<8;omega⟩,hnd'.2.1,λhm=>by have:=hlt b (hin b hm);omega⟩,λe he=>(h.kids e (hmem e he)).move (λx hx=>hx) (λx hx=>hf.block x (h.dead x hx).1 (h.dead x hx).2.1),λx hx=>?_,?_,λx hx=>h.runs x (hmem x hx),λx hx=>?_⟩
 ·have hd:=h.dead x hx;refine⟨Qh hd.1 hf.size,λhm=>?_⟩;rcases List.mem_cons.1 hm with hm|hm
  ·omega
  ·exact hd.2.1 (Qo _ (hin x hm))
 ·have hb:=h.bytes;rw[show P++a::Q=(P++[a])++Q by simp,Qv,zeb] at hb;have:=h.kl;have:=h.small;omega
 ·rcases List.mem_cons.1 hx with rfl|hx
  ·refine⟨λhm=>?_,λhA=>by have:=(h.dead x hA).1;omega,λe=>by have:=(h.own.lt x e.symm).2;omega⟩;rcases List.mem_cons.1 hm with hm|hm
   ·have:=h.lt;omega
   ·have:=hlt x (hin2 x hm);omega
  ·refine⟨λhm=>?_,λhA=>(h.dead x hA).2.1 (Qo _ (hin x hx)),h.sep x (hin x hx)⟩;rcases List.mem_cons.1 hm with hm|hm
   ·exact h.ch.out (by rw[<-hm];exact hin x hx)
   ·exact hnd'.2.2 x hm x hx rfl
theorem zgk {C b K:Nat}{ct r:ByteArray}{P Q l':List Mem}{a:Mem}{os os6:List Opn}{sa:Option Addr}{sc:Nat}{A A5:Nat->Prop}{W4 w5 w6 w7:World}{cs:List Value}{kd:Int}{t:List UInt8}(hM:zxw C b K ct r P Q a os sa sc A W4)(hS:zs8 b 3 177 cs Q A W4 l' A5 w5)(hC:Cut C ct K K (P++[a]) os6 sa sc A w6)(hup:∀x∈os6,x.j<P.length)(hz:w5.heap.size<=w6.heap.size)(hkeep:∀x,A x\/A5 x\/x∈blks l'->w6.heap[x]?=w5.heap[x]?)
  (hf:Fr [a.m] w6 w7) (hb:w7.heap[a.m]?=some (.cells (zcz ⟨a.m,.mk kd t [] (zdi (Q.map Mem.p)) 0 false false,hd l' none,lst l' none⟩ (lst P none) none).toArray 179 (0,0))) :
  Cut C ct K K (P++[⟨a.m,.mk kd t [] (zdi (Q.map Mem.p)) 0 false false,hd l' none,lst l' none⟩]) os6 sa sc (λx=>A x\/A5 x\/x∈blks l') w7:=by
 have dh:(Value.slice sa os6.length sc).ownBlock=(Value.slice sa os.length sc).ownBlock:=by cases sa<;>rfl
 have bg:∀x,W4.heap.size<=x->x ∉ C::blks (P++[a])/\some x≠(Value.slice sa os6.length sc).ownBlock:=λx hx=>by
  refine⟨λhm=>?_,λe=>?_⟩
  ·rcases List.mem_cons.1 hm with hm|hm
   ·have:=hM.cut.lt;omega
   ·have:=hM.cut.ch.mlt x hm;omega
  ·rw[dh] at e;have:=(hM.cut.own.lt x e.symm).2;omega
 have hq:∀x∈blks Q,x ∉ C::blks (P++[a])/\some x≠(Value.slice sa os6.length sc).ownBlock:=λx hx=>by
  rw[dh];have:=hM.sep x (Qo _ hx);exact⟨this.1,this.2.2⟩
 have hk:KRep w5 (λx=>A x\/A5 x\/x∈blks l') (hd l' none) (l'.map Mem.p):=zi3 hS.ch.seg (λe he=>.inr (.inr (List.mem_map_of_mem he))) (λe he=>(hS.kids e he).move (λx hx=>.inr (.inl hx)) (λ_ _=>rfl));refine hC.sealed hup rfl hf hb (λx hx=>.inl hx) (λx hx=>?_) ?_ rfl rfl
 ·rcases hx with hx|hx|hx
  ·exact hC.dead x hx
  ·refine⟨Qh (hS.dead x hx).1 hz,?_⟩;rcases hS.old x hx with h1|h1|h1
   ·exact(hC.dead x h1).2
   ·exact hq x h1
   ·exact bg x h1
  ·refine⟨Qh (hS.ch.mlt x hx) hz,?_⟩;rcases hS.live x hx with h1|h1
   ·exact hq x h1
   ·exact bg x h1
 ·have h1:=hk.move (λx hx=>hx) (w':=w6) hkeep;rw[hS.part] at h1;exact h1
def zib (t:List UInt8)(im:Bool)(l:List Pt):Pt:=.mk (if im then 13 else 12) t [] (zdi l) 0 false false
theorem zqj {sa:Option Addr}{n sc x:Nat}(hx:x∈ownL sa):(Value.slice sa n sc).ownBlock=some x:=by
 cases sa<;>simp[ownL] at hx;subst hx;rfl
theorem zqo {C b K:Nat}{ct r:ByteArray}{P Q l':List Mem}{a:Mem}{os:List Opn}{sa:Option Addr}{sc:Nat}{A A5:Nat->Prop}{W4 w5 w5' w6:World}{cs:List Value}(hM:zxw C b K ct r P Q a os sa sc A W4)(hS:zs8 b 3 177 cs Q A W4 l' A5 w5)(hfb:Fr [b] w5 w5')(hf6:Fr (ownL sa) w5' w6):∀x,A x\/A5 x\/x∈blks l'->w6.heap[x]?=w5.heap[x]?:=by
 have hz:=hS.fr.size;have hz':=hfb.size;have hA:∀x,A x->x<w5.heap.size/\x≠b/\x ∉ ownL sa:=λx hx=>⟨by have:=(hM.dead x hx).1;omega,λe=>(hM.sep b Qx).2.1 (e▸hx),λhm=>(hM.cut.dead x hx).2.2 (zqj hm).symm⟩;have hQ:∀x∈blks Q,x ∉ ownL sa:=λx hx hm=>(hM.sep x (Qo _ hx)).2.2 (zqj hm).symm;have hF:∀x,W4.heap.size<=x->x ∉ ownL sa:=λx hx hm=>by have:=(hM.cut.own.lt x (zqj hm)).2;omega
 have key:∀x,x<w5.heap.size/\x≠b/\x ∉ ownL sa->w6.heap[x]?=w5.heap[x]?:=λx h=>by
  rw[hf6.block x (by omega) h.2.2,hfb.block x h.1 (by simpa using h.2.1)]
 intro x hx;apply key
 rcases hx with hx|hx|hx
 ·exact hA x hx
 ·have hd:=hS.dead x hx;refine⟨hd.1,λe=>hd.2 (by rw[e];exact Qx),?_⟩;rcases hS.old x hx with h1|h1|h1
  ·exact(hA x h1).2.2
  ·exact hQ x h1
  ·exact hF x h1
 ·refine⟨hS.ch.mlt x hx,λe=>hS.ch.out (by rw[<-e];exact hx),?_⟩;rcases hS.live x hx with h1|h1
  ·exact hQ x h1
  ·exact hF x h1
theorem close_some (C:Nat)(ct:ByteArray)(f k n:Nat)(P M:List Mem)(a:Mem)(os:List Opn)(o:Opn)(sa:Option Addr)(sc:Nat)(A:Nat->Prop)(w:World)(h:Cut C ct f k (P++a::M) (os++[o]) sa sc A w)(hoj:o.j=P.length)(hol:os.length<=1000000)(hdd:o.dead=false)(hk:k+1<=ct.size)(hok:S.zd5 (ct.data.toList.drop (k+1))=true)(hn:(S.addrOf (ct.data.toList.drop (k+1))).length=n)(hkn:k+(3+n)<=ct.size)(R:Ending->World->Prop)(hR:∀e w',(∃m1 A' kf kl,e=.returned (.bool true)/\Cut C ct (k+(3+n)) (k+(3+n)) (P++[⟨a.m,zib (S.addrOf (ct.data.toList.drop (k+1))) o.image ((M++zcu ct f k m1).map Mem.p),kf,kl⟩]) (if o.image then os else os.map Opn.kill) sa sc A' w'/\Below C w w')->R e w'):Calls prog 203 #[.pointer (some ⟨C,0,none⟩)] w R:=by
 have hcl:=h.lt;have hsm:=h.small;have hP:=hid (zoa C ct f k (P++a::M) os o sa sc A w h hol);have hga:((P++a::M)[o.j]?).map Mem.ad=some ⟨a.m,0,none⟩:=by rw[hoj];simp
 rw[hdd,hga] at hP;have hz:(ct.extract (k+1) ct.size).size=ct.size-(k+1):=by simp
 obtain⟨t,ht⟩:=Qyy (S.addrOf (ct.data.toList.drop (k+1)));rw[ht] at hn hR;have yt:=hid hR;clear hR;have hAd:Hid (∀wx,Calls prog 237 #[.string (ct.extract (k+1) ct.size)] wx λe w'=>∃r:ByteArray,e=.returned (.tuple #[.string r,.bool true])/\Hid (r.data.toList=t)/\Below wx.heap.size wx w'):=hid (λwx=>by
  have:=zix (ct.extract (k+1) ct.size) wx (by omega);rw[zbi,hok,ht] at this;exact this.mono (λe w' ⟨r,h1,h2,h3⟩=>⟨r,h1,hid (h2.out rfl),h3⟩))
 have hup:Hid (∀x∈os,x.j<P.length):=hid (λx hx=>by
  have:=(List.pairwise_append.1 h.up).2.2 x hx o (by simp);omega)
 have hbm:Hid (∀x∈C::blks (P++a::M),x<w.heap.size):=hid (λx hx=>by
  rcases List.mem_cons.1 hx with rfl|hx
  ·exact h.lt
  ·exact h.ch.mlt x hx)
 have hH:=hid h;clear h ht;go_enter func203,ntmps203;go_wp2_with fail
 refine hP.out.mono ?_;rintro e w1⟨rfl,zl,hf1⟩;have hcc:=zl.cells;have hl1:=zl.lt;have q0a:∀ob,(w1.alloc ob).cell? ⟨C,0,none⟩=some (.string ct):=λob=>za0 ((Below.heap_alloc w1 ob C hl1).trans hcc) 0 _ rfl;have q2a:∀ob,(w1.alloc ob).cell? ⟨C,2,none⟩=some (.int .i64 (k:Nat)):=λob=>za0 ((Below.heap_alloc w1 ob C hl1).trans hcc) 2 _ rfl;have qg:w.heap.size<=w1.heap.size:=hf1.size;have hall:=hid (And.intro zl hf1);clear zl hf1 hcc;go_wp2_with fail
 obtain⟨W,hW⟩:=Qzz (w1.alloc (.cells #[.pointer (some ⟨a.m,0,none⟩),.bool o.image,.bool false] 253));have hbW:Hid (Below w1.heap.size w1 W):=hid (by rw[hW];exact(Below.refl _ _).alloc (Qc _) _);have zx:W.heap.size=w1.heap.size+1:=by rw[hW];simp
 have zn:W.heap[w1.heap.size]?=some (.cells #[.pointer (some ⟨a.m,0,none⟩),.bool o.image,.bool false] 253 (0,0)):=by rw[hW];exact za1 _ _
 have k0:W.cell? ⟨C,0,none⟩=some (.string ct):=by rw[hW];exact q0a _
 have k2:W.cell? ⟨C,2,none⟩=some (.int .i64 (k:Nat)):=by rw[hW];exact q2a _
 have xq:C<W.heap.size:=Qh hl1 hbW.out.size;have hI0:(0:Int)<=(k:Int)+1:=by omega
 have hI1:(k:Int)+1<=(ct.size:Int):=by omega
 have hI2:((k:Int)+1).toNat=k+1:=by omega
 have zk:(k:Int)<(ct.size:Int):=by omega
 have zh:k<ct.size:=by omega
 have yx:IntKind.i64.wrap ((k:Int)+1)=(k:Int)+1:=by rw[IntKind.wrap_i64];omega
 obtain⟨bx,hbx⟩:=Qzz (w1.heap.size);rw[<-hW,<-hbx];rw[<-hbx] at zn zx;have vg:=hid hbx;have zw:=hid zx;clear hW q0a q2a zx hbx;go_region_held3 (λw'=>w'.cell? ⟨C,0,none⟩=some (.string ct)/\w'.cell? ⟨C,2,none⟩=some (.int .i64 (k:Nat)))
  ((refine⟨?_,?_⟩<;>(first|assumption|with_reducible exact k0|with_reducible exact k2)))
  ((go_at_call 237;refine(hAd.out W.drew).mono ?_;rintro e w2⟨r,rfl,hr,hb2⟩;have j0:=(hb2.cell (p:=⟨C,0,none⟩) xq).trans k0;have j2:=(hb2.cell (p:=⟨C,2,none⟩) xq).trans k2))
 have vv:Below w1.heap.size w1 w2:=hbW.out.trans ((Below.refl _ W).drew.trans hb2 |>.mono hbW.out.size);have vk:w2.heap[bx]?=some (.cells #[.pointer (some ⟨a.m,0,none⟩),.bool o.image,.bool false] 253 (0,0)):=(hb2.block bx (by show bx<W.heap.size;have:=zw.out;omega)).trans zn;have hrs:r.size=n:=by rw[<-S.lda,hr.out];exact hn
 have hrb:Hid (S.B t=r):=hid (by rw[<-hr.out,S.zbp]);have hSk:=hid (zo7 C ct f k (3+n) (P++a::M) os sa sc A w2 (hall.out.1.below vv) hkn);rw[show ((3+n:Nat):Int)=3+(n:Int) by omega] at hSk;have hx2:bx<w2.heap.size:=(Qq.1 vk).1;have jy:bx ∉ C::blks (P++a::M):=λhm=>by have:=hbm.out bx hm;have:=vg.out;omega
 have h12:=hid vv;clear hb2 vv k0 k2 j0 j2 zn;go_wp2_with fail
 refine hSk.out.mono ?_;rintro e w3⟨m1,rfl,hm1,xg,hf3⟩;have qm:w3.heap[bx]?=some (.cells #[.pointer (some ⟨a.m,0,none⟩),.bool o.image,.bool false] 253 (0,0)):=(hf3.block bx hx2 jy).trans vk;have y0:w3.cell? ⟨bx,0,none⟩=some (.pointer (some ⟨a.m,0,none⟩)):=za0 qm 0 _ rfl;obtain⟨Q,hQ⟩:=Qzz (M++zcu ct f k m1);have hms:(P++a::M)++zcu ct f k m1=P++a::Q:=by rw[hQ];simp
 rw[hms] at xg;have jk:bx ∉ C::blks (P++a::Q):=λhm=>by
  rw[<-hms,zac] at hm;rcases List.mem_cons.1 hm with hm|hm
  ·exact jy (by rw[hm];exact Qx)
  ·rcases Qbh.1 hm with hm|hm
   ·exact jy (Qo _ hm)
   ·unfold zcu at hm;split at hm<;>simp[blks] at hm;omega
 have hx3:bx<w3.heap.size:=(Qq.1 qm).1;have hlt3:Hid (∀x∈C::blks (P++a::Q),x<w3.heap.size):=hid (λx hx=>by
  rcases List.mem_cons.1 hx with rfl|hx
  ·exact xg.lt
  ·exact xg.ch.mlt x hx)
 obtain⟨W3,hW3⟩:=Qzz (w3.alloc (.cells #[.int .i64 0,.string ⟨#[]⟩,.string ⟨#[]⟩,.pointer none,.pointer none,.int .i64 0,.bool false,.bool false] 177));have yc:w3.heap.size ∉ C::blks (P++a::Q):=λhm=>by have:=hlt3.out _ hm;omega
 have hz3:Hid (W3.heap[w3.heap.size]?=some (.cells #[.int .i64 0,.string ⟨#[]⟩,.string ⟨#[]⟩,.pointer none,.pointer none,.int .i64 0,.bool false,.bool false] 177 (0,0))/\W3.heap.size=w3.heap.size+1/\∀x,x<w3.heap.size->W3.heap[x]?=w3.heap[x]?):=hid (by rw[hW3];exact⟨za1 _ _,by simp,λx hx=>Below.heap_alloc _ _ _ hx⟩);have hTk0:Hid (Calls prog 238 #[.pointer (some ⟨C,3,none⟩),.pointer (some ⟨a.m,0,none⟩),.pointer none] w3.drew λe w'=>e=.returned (.agg #[.pointer (hd Q none),.pointer (lst Q none)])/\Hid (Ch w' C 3 168 (zbq ct (k+(3+n)) (k+(3+n)) (.slice sa os.length sc)) (P++[a])/\Seg w' none Q none/\Fr (C::blks (P++a::Q)) w3 w')/\w'.cell? ⟨bx,0,none⟩=some (.pointer (some ⟨a.m,0,none⟩))/\¬w'.heap.size=bx):=hid ((zrk C 168 (zbq ct (k+(3+n)) (k+(3+n)) (.slice sa os.length sc)) P Q a w3.drew (xg.ch.move (λ_ _=>rfl))).mono (λe w' ⟨h1,h2,h3,h4⟩=>⟨h1,hid ⟨h2,h3,((Fr.refl _ w3).drew).trans h4 (λx hx=>.inl hx)⟩,(zfw (h4.block bx hx3 jk) 0).trans y0,by have h5:w3.heap.size<=w'.heap.size:=h4.size;omega⟩));have yh:Hid (Calls prog 238 #[.pointer (some ⟨C,3,none⟩),.pointer (some ⟨a.m,0,none⟩),.pointer none] W3.drew λe w'=>e=.returned (.agg #[.pointer (hd Q none),.pointer (lst Q none)])/\Hid (Ch w' C 3 168 (zbq ct (k+(3+n)) (k+(3+n)) (.slice sa os.length sc)) (P++[a])/\Seg w' none Q none/\Fr (C::blks (P++a::Q)) W3 w'/\w'.heap[w3.heap.size]?=some (.cells [.int .i64 0,.string ⟨#[]⟩,.string ⟨#[]⟩,.pointer none,.pointer none,.int .i64 0,.bool false,.bool false].toArray 177 (0,0)))/\w'.cell? ⟨bx,0,none⟩=some (.pointer (some ⟨a.m,0,none⟩))/\(∀i u,[(.int .i64 0:Value),.string ⟨#[]⟩,.string ⟨#[]⟩,.pointer none,.pointer none,.int .i64 0,.bool false,.bool false][i]?=some u->w'.cell? ⟨w3.heap.size,i,none⟩=some u)/\∀i,w'.frozen? ⟨w3.heap.size,i,none⟩=false):=hid ((zrk C 168 (zbq ct (k+(3+n)) (k+(3+n)) (.slice sa os.length sc)) P Q a W3.drew (xg.ch.move (λx hx=>hz3.out.2.2 x (hlt3.out x hx)))).mono (λe w' ⟨h1,h2,h3,h4⟩=>by
  have hsz:=hz3.out.2.1;have hb:=(h4.block w3.heap.size (by show w3.heap.size<W3.heap.size;omega) yc).trans hz3.out.1;exact⟨h1,hid ⟨h2,h3,((Fr.refl _ W3).drew).trans h4 (λx hx=>.inl hx),hb⟩,(zfw ((h4.block bx (by show bx<W3.heap.size;omega) jk).trans (hz3.out.2.2 bx hx3)) 0).trans y0,λi u hu=>za0 hb i u (by simpa using hu),za7 hb⟩))
 rw[hW3] at yh;have h3:=hid (And.intro xg hf3);have qp:=hid qm;have yw:=hid hQ;have hn0:¬w3.heap.size=bx:=by omega
 have qh:¬bx=w3.heap.size:=by omega
 clear xg hf3 qm hQ hms vk;go_wp2_with fail
 have yd:w3.drew.cell? ⟨bx,0,none⟩=some (.pointer (some ⟨a.m,0,none⟩)):=y0;go_region_held3 (λw'=>w'.cell? ⟨bx,0,none⟩=some (.pointer (some ⟨a.m,0,none⟩)))
  ((first|with_reducible assumption|go_keep))
  (first|(go_at_call 238;with_reducible refine hTk0.out.mono ?_;rintro e w4⟨rfl,h4,j0,hn1⟩)|(go_at_call 238;with_reducible refine yh.out.mono ?_;rintro e w4⟨rfl,h4,j0,jc,jf⟩;have z0:=jc 0 _ rfl;have z1:=jc 1 _ rfl;have z2:=jc 2 _ rfl;have z3:=jc 3 _ rfl;have z4:=jc 4 _ rfl;have z5:=jc 5 _ rfl;have z6:=jc 6 _ rfl;have z7:=jc 7 _ rfl;clear jc))
 ·obtain⟨W4,pz⟩:=Qzz (w4.alloc (.cells #[.int .i64 13,.string r,.string ⟨#[]⟩,.pointer (hd Q none),.pointer (lst Q none),.int .i64 0,.bool false,.bool false] 177));obtain⟨b,hb⟩:=Qzz (w4.heap.size);have hz4:w3.heap.size<=w4.heap.size:=h4.out.2.2.size;have qz:Fr (C::blks (P++a::Q)) w3 W4:=by rw[pz];exact h4.out.2.2.alloc _
  have hsame:∀x,x<w4.heap.size->W4.heap[x]?=w4.heap[x]?:=λx hx=>by rw[pz];exact Below.heap_alloc _ _ _ hx
  have yj:zxw C b (k+(3+n)) ct r P Q a os sa sc A W4:=zz5 h3.out.1 hup.out (h4.out.1.move (λx hx=>hsame x (by rcases List.mem_cons.1 hx with rfl|hx;exact h4.out.1.lt;exact h4.out.1.mlt x hx))) (h4.out.2.1.move (λe he=>hsame e.m (h4.out.2.1.lt e he))) qz (by rw[pz,hb];exact za1 _ _) (by omega)
  have hbz:w3.heap.size<=b:=by omega
  rw[<-pz,<-hb];have dw:=hid (And.intro yj qz);clear pz hb yj qz hsame h4 j0 hn1 hz4;have hSe:=hid (zk1 b 3 177 (madeCells 13 r) Q A W4 dw.out.1.ch dw.out.1.kids dw.out.1.dead dw.out.1.txt dw.out.1.runs);have hx4:bx<W4.heap.size:=Qh hx3 dw.out.2.size;have ng:Hid (W4.heap[bx]?=some (.cells #[.pointer (some ⟨a.m,0,none⟩),.bool o.image,.bool false] 253 (0,0))):=hid ((dw.out.2.block bx hx3 jk).trans qp.out);have jl:bx ∉ b::blks Q:=λhm=>by
   rcases List.mem_cons.1 hm with hm|hm
   ·omega
   ·exact jk (by rw[show P++a::Q=(P++[a])++Q by simp,zac];exact Qo _ (List.mem_append_right _ hm))
  go_wp2_with fail
  refine hSe.out.mono ?_;rintro e w5⟨l',A5,rfl,hS5⟩;have lg:=(hS5.fr.block bx hx4 jl).trans ng.out;have u0:w5.cell? ⟨bx,0,none⟩=some (.pointer (some ⟨a.m,0,none⟩)):=za0 lg 0 _ rfl;have u1:w5.cell? ⟨bx,1,none⟩=some (.bool o.image):=za0 lg 1 _ rfl;have lq:=hid (dw.out.1.cut.frame hS5.fr dw.out.1.sep);have hb5:w5.heap[b]?=some (.cells [.int .i64 13,.string r,.string ⟨#[]⟩,.pointer (hd l' none),.pointer (lst l' none),.int .i64 0,.bool false,.bool false].toArray 177 (0,0)):=hS5.ch.hdr.1;have jh:=hid hS5;have hBel:Hid (Below C w w5):=hid (by
   have hB1:Below C w w1:=hall.out.2.below (Nat.le_of_lt hcl) (by simp);have hB2:Below C w1 w2:=h12.out.mono (Nat.le_of_lt hl1);have hB3:Below C w2 w3:=(hall.out.1.below h12.out).zf6 h3.out.2;have hB4:Below C w3 W4:=h3.out.1.zf6 dw.out.2;have hB5:Below C W4 w5:=hS5.fr.below (by have:=dw.out.1.cut.lt;omega) (λx hx=>by
    have h3l:=h3.out.1.lt;rcases List.mem_cons.1 hx with hx|hx
    ·omega
    ·exact Nat.le_of_lt (h3.out.1.above x (by rw[show P++a::Q=(P++[a])++Q by simp,zac];exact List.mem_append_right _ hx)))
   exact(((hB1.trans hB2).trans hB3).trans hB4).trans hB5)
  have fq:=((seg_append _ _ _ _ _).1 lq.out.ch.seg).2.cells;clear hS5 lg;by_cases hoi:o.image=true
  ·rw[hoi] at u1;have v0:w5.cell? ⟨b,0,none⟩=some (.int .i64 13):=za0 hb5 0 _ rfl;have v1:w5.cell? ⟨b,1,none⟩=some (.string r):=za0 hb5 1 _ rfl;have v2:w5.cell? ⟨b,2,none⟩=some (.string ⟨#[]⟩):=za0 hb5 2 _ rfl;have v3:w5.cell? ⟨b,3,none⟩=some (.pointer (hd l' none)):=za0 hb5 3 _ rfl;have v4:w5.cell? ⟨b,4,none⟩=some (.pointer (lst l' none)):=za0 hb5 4 _ rfl;have v5:w5.cell? ⟨b,5,none⟩=some (.int .i64 0):=za0 hb5 5 _ rfl;have v6:w5.cell? ⟨b,6,none⟩=some (.bool false):=za0 hb5 6 _ rfl;have v7:w5.cell? ⟨b,7,none⟩=some (.bool false):=za0 hb5 7 _ rfl;generalize hkf:hd l' none=kf at v3;generalize hkl:lst l' none=kl at v4;obtain⟨e0,g0⟩:∃e,w5.cell? ⟨a.m,0,none⟩=some e:=⟨_,za0 fq 0 _ rfl⟩;obtain⟨e1,g1⟩:∃e,w5.cell? ⟨a.m,1,none⟩=some e:=⟨_,za0 fq 1 _ rfl⟩;obtain⟨e2,g2⟩:∃e,w5.cell? ⟨a.m,2,none⟩=some e:=⟨_,za0 fq 2 _ rfl⟩;obtain⟨e3,g3⟩:∃e,w5.cell? ⟨a.m,3,none⟩=some e:=⟨_,za0 fq 3 _ rfl⟩;obtain⟨e4,g4⟩:∃e,w5.cell? ⟨a.m,4,none⟩=some e:=⟨_,za0 fq 4 _ rfl⟩;obtain⟨e5,g5⟩:∃e,w5.cell? ⟨a.m,5,none⟩=some e:=⟨_,za0 fq 5 _ rfl⟩;obtain⟨e6,g6⟩:∃e,w5.cell? ⟨a.m,6,none⟩=some e:=⟨_,za0 fq 6 _ rfl⟩;obtain⟨e7,g7⟩:∃e,w5.cell? ⟨a.m,7,none⟩=some e:=⟨_,za0 fq 7 _ rfl⟩;have gf:=za7 fq;have zy:=hid hb5;have wh:=hid fq;clear hb5 fq hga hz hn hk hkn hoj hol hok hsm hdd hI0 hI1 hI2 zk zh yx hn0 qh yc hx3 jk hx4 jl hrs jy hx2 hm1 y0 yd qg hl1 xq;have kr:=hid hkf;have kg:=hid hkl;clear hkf hkl;go_wp2;refine yt.out _ _ ?_;have jw:=hrb.out;have dh:C<=a.m:=Nat.le_of_lt (lq.out.above a.m (by simp[blks]));refine⟨m1,(λx=>A x\/A5 x\/x∈blks l'),hd l' none,lst l' none,rfl,?_,(((((((hBel.out.setCell dh _).setCell dh _).setCell dh _).setCell dh _).setCell dh _).setCell dh _).setCell dh _).setCell dh _⟩;rw[hoi];have hfin:=zgk (kd:=13) (t:=t) dw.out.1 jh.out lq.out hup.out (Qc _) (λ_ _=>rfl) (((((((((Fr.refl [a.m] w5).setCell ⟨a.m,0,none⟩ (.inl (by simp)) (.int .i64 13)).setCell ⟨a.m,1,none⟩ (.inl (by simp)) (.string r)).setCell ⟨a.m,2,none⟩ (.inl (by simp)) (.string ⟨#[]⟩)).setCell ⟨a.m,3,none⟩ (.inl (by simp)) (.pointer kf)).setCell ⟨a.m,4,none⟩ (.inl (by simp)) (.pointer kl)).setCell ⟨a.m,5,none⟩ (.inl (by simp)) (.int .i64 0)).setCell ⟨a.m,6,none⟩ (.inl (by simp)) (.bool false)).setCell ⟨a.m,7,none⟩ (.inl (by simp)) (.bool false)) (by
    have hb:=za3 (za3 (za3 (za3 (za3 (za3 (za3 (za3 wh.out 0 (.int .i64 13)) 1 (.string r)) 2 (.string ⟨#[]⟩)) 3 (.pointer kf)) 4 (.pointer kl)) 5 (.int .i64 0)) 6 (.bool false)) 7 (.bool false);rw[<-jw,<-kr.out,<-kg.out] at hb ⊢;exact hb)
   rw[yw.out] at hfin;exact hfin
  ·have mh:o.image=false:=by simpa using hoi
   rw[mh] at u1;have v0:w5.cell? ⟨b,0,none⟩=some (.int .i64 13):=za0 hb5 0 _ rfl;have vf:=za7 hb5;obtain⟨jm,jq⟩:=Qzz (w5.setCell ⟨b,0,none⟩ (.int .i64 12));have dx:Fr [b] w5 jm:=by rw[jq];exact(Fr.refl _ _).setCell _ (.inl (by simp)) _
   have jd:jm.heap[b]?=some (.cells [.int .i64 12,.string r,.string ⟨#[]⟩,.pointer (hd l' none),.pointer (lst l' none),.int .i64 0,.bool false,.bool false].toArray 177 (0,0)):=by rw[jq];exact za3 hb5 0 _
   have hsb:=dw.out.1.sep b Qx;have qb:=lq.out.frame dx (λx hx=>by simp at hx;subst hx;exact hsb);have hEa:=hid (zun C ct (k+(3+n)) (k+(3+n)) (P++[a]) os sa sc A jm qb hol);have hown:∀x,x∈ownL sa->(Value.slice sa os.length sc).ownBlock=some x:=λx hx=>by cases sa<;>simp[ownL] at hx;subst hx;rfl
   have gy:b<w5.heap.size:=(Qq.1 hb5).1;have zm:W4.heap.size<=w5.heap.size:=jh.out.fr.size;have bg:jm.heap[bx]?=some (.cells #[.pointer (some ⟨a.m,0,none⟩),.bool o.image,.bool false] 253 (0,0)):=by
    rw[dx.block bx (by omega) (by simp;omega),jh.out.fr.block bx hx4 jl];exact ng.out
   have gq:bx ∉ ownL sa:=λhm=>by
    have:=((hall.out.1.own.lt bx (hown bx hm))).2;have:=vg.out;omega
   have ny:b ∉ ownL sa:=λhm=>hsb.2.2 (hown b hm).symm;have hrest:=hid (And.intro dx (And.intro jd (And.intro bg (And.intro gq (And.intro ny (And.intro gy hx4))))));have zq:=hup;have qy:=hid jq;have tq:=hid hbz;clear hb5 fq hga hz hn hk hkn hoj hol hok hsm hdd hI0 hI1 hI2 zk zh yx hn0 qh yc hx3 jk hx4 jl hrs jy hx2 hm1 y0 yd qg hl1 xq dx jd hsb qb hown gy bg gq ny zm hbz;go_wp2_with (fail);rw[<-qy.out];refine hEa.out.mono ?_;rintro e w6⟨rfl,wm,qj⟩;obtain⟨dx,jd,bg,gq,ny,gy,hx4⟩:=hrest.out;have qx:w5.heap.size<=jm.heap.size:=dx.size;have hb6:=(qj.block b (by omega) ny).trans jd;have mq:=(qj.block bx (Qq.1 bg).1 gq).trans bg;have jg:=((seg_append _ _ _ _ _).1 wm.ch.seg).2.cells;have u0':w6.cell? ⟨bx,0,none⟩=some (.pointer (some ⟨a.m,0,none⟩)):=za0 mq 0 _ rfl;have y0:w6.cell? ⟨b,0,none⟩=some (.int .i64 12):=za0 hb6 0 _ rfl;have y1:w6.cell? ⟨b,1,none⟩=some (.string r):=za0 hb6 1 _ rfl;have y2:w6.cell? ⟨b,2,none⟩=some (.string ⟨#[]⟩):=za0 hb6 2 _ rfl;have y3:w6.cell? ⟨b,3,none⟩=some (.pointer (hd l' none)):=za0 hb6 3 _ rfl;have y4:w6.cell? ⟨b,4,none⟩=some (.pointer (lst l' none)):=za0 hb6 4 _ rfl;have y5:w6.cell? ⟨b,5,none⟩=some (.int .i64 0):=za0 hb6 5 _ rfl;have y6:w6.cell? ⟨b,6,none⟩=some (.bool false):=za0 hb6 6 _ rfl;have y7:w6.cell? ⟨b,7,none⟩=some (.bool false):=za0 hb6 7 _ rfl;generalize hkf:hd l' none=kf at y3;generalize hkl:lst l' none=kl at y4;obtain⟨e0,g0⟩:∃e,w6.cell? ⟨a.m,0,none⟩=some e:=⟨_,za0 jg 0 _ rfl⟩;obtain⟨e1,g1⟩:∃e,w6.cell? ⟨a.m,1,none⟩=some e:=⟨_,za0 jg 1 _ rfl⟩;obtain⟨e2,g2⟩:∃e,w6.cell? ⟨a.m,2,none⟩=some e:=⟨_,za0 jg 2 _ rfl⟩;obtain⟨e3,g3⟩:∃e,w6.cell? ⟨a.m,3,none⟩=some e:=⟨_,za0 jg 3 _ rfl⟩;obtain⟨e4,g4⟩:∃e,w6.cell? ⟨a.m,4,none⟩=some e:=⟨_,za0 jg 4 _ rfl⟩;obtain⟨e5,g5⟩:∃e,w6.cell? ⟨a.m,5,none⟩=some e:=⟨_,za0 jg 5 _ rfl⟩;obtain⟨e6,g6⟩:∃e,w6.cell? ⟨a.m,6,none⟩=some e:=⟨_,za0 jg 6 _ rfl⟩;obtain⟨e7,g7⟩:∃e,w6.cell? ⟨a.m,7,none⟩=some e:=⟨_,za0 jg 7 _ rfl⟩;have gf:=za7 jg;have kr:=hid hkf;have kg:=hid hkl;have h6:=hid (And.intro wm qj);have vw:=hid jg;clear hkf hkl wm qj hb6 mq jg dx jd bg gq ny gy hx4 qx u0 u1 v0 vf;go_wp2;refine yt.out _ _ ?_;have jw:=hrb.out;obtain⟨dx,_,_,_,_,gy,_⟩:=hrest.out;have dh:C<=a.m:=Nat.le_of_lt (lq.out.above a.m (by simp[blks]));have pq:Below C w w6:=(hBel.out.trans (dx.below (by have:=lq.out.lt;omega) (λx hx=>by simp at hx;subst hx;have:=h3.out.1.lt;have:=tq.out;omega))).trans (h6.out.2.below (by have:=h6.out.1.lt;have:=lq.out.lt;have:=dx.size;omega) (λx hx=>by have:=(h6.out.1.own.lt x (zqj hx)).1;omega));refine⟨m1,(λx=>A x\/A5 x\/x∈blks l'),hd l' none,lst l' none,rfl,?_,(((((((pq.setCell dh _).setCell dh _).setCell dh _).setCell dh _).setCell dh _).setCell dh _).setCell dh _).setCell dh _⟩;rw[mh];have hfin:=zgk (kd:=12) (t:=t) dw.out.1 jh.out h6.out.1 (λx hx=>by obtain⟨y,hy,rfl⟩:=List.mem_map.1 hx;exact hup.out y hy) (Qj dx.size h6.out.2.size) (zqo dw.out.1 jh.out dx h6.out.2) (((((((((Fr.refl [a.m] w6).setCell ⟨a.m,0,none⟩ (.inl (by simp)) (.int .i64 12)).setCell ⟨a.m,1,none⟩ (.inl (by simp)) (.string r)).setCell ⟨a.m,2,none⟩ (.inl (by simp)) (.string ⟨#[]⟩)).setCell ⟨a.m,3,none⟩ (.inl (by simp)) (.pointer kf)).setCell ⟨a.m,4,none⟩ (.inl (by simp)) (.pointer kl)).setCell ⟨a.m,5,none⟩ (.inl (by simp)) (.int .i64 0)).setCell ⟨a.m,6,none⟩ (.inl (by simp)) (.bool false)).setCell ⟨a.m,7,none⟩ (.inl (by simp)) (.bool false)) (by
    have hb:=za3 (za3 (za3 (za3 (za3 (za3 (za3 (za3 vw.out 0 (.int .i64 12)) 1 (.string r)) 2 (.string ⟨#[]⟩)) 3 (.pointer kf)) 4 (.pointer kl)) 5 (.int .i64 0)) 6 (.bool false)) 7 (.bool false);rw[<-jw,<-kr.out,<-kg.out] at hb ⊢;exact hb)
   rw[yw.out] at hfin;exact hfin
 ·obtain⟨W4,pz⟩:=Qzz (((((((((w4.setCell ⟨w3.heap.size,0,none⟩ (.int .i64 13)).setCell ⟨w3.heap.size,1,none⟩ (.string r)).setCell ⟨w3.heap.size,2,none⟩ (.string ⟨#[]⟩)).setCell ⟨w3.heap.size,3,none⟩ (.pointer (hd Q none))).setCell ⟨w3.heap.size,4,none⟩ (.pointer (lst Q none))).setCell ⟨w3.heap.size,5,none⟩ (.int .i64 0)).setCell ⟨w3.heap.size,6,none⟩ (.bool false)).setCell ⟨w3.heap.size,7,none⟩ (.bool false)));obtain⟨b,hb⟩:=Qzz (w3.heap.size);have yg:Fr (C::blks (P++a::Q)) w3 w4:=((Fr.refl _ w3).alloc _).trans h4.out.2.2.1 (λx hx=>.inl hx);have qz:Fr (C::blks (P++a::Q)) w3 W4:=by rw[pz];exact(((((((yg.setCell _ (.inr (Qc _)) _).setCell _ (.inr (Qc _)) _).setCell _ (.inr (Qc _)) _).setCell _ (.inr (Qc _)) _).setCell _ (.inr (Qc _)) _).setCell _ (.inr (Qc _)) _).setCell _ (.inr (Qc _)) _).setCell _ (.inr (Qc _)) _
  have hsame:∀x,x<w3.heap.size->W4.heap[x]?=w4.heap[x]?:=λx hx=>by
   have hne:x≠w3.heap.size:=by omega
   rw[pz,Below.heap_setCell _ _ _ _ hne,Below.heap_setCell _ _ _ _ hne,Below.heap_setCell _ _ _ _ hne,Below.heap_setCell _ _ _ _ hne,Below.heap_setCell _ _ _ _ hne,Below.heap_setCell _ _ _ _ hne,Below.heap_setCell _ _ _ _ hne,Below.heap_setCell _ _ _ _ hne]
  have hsub:∀x∈C::blks (P++[a]),x<w3.heap.size:=λx hx=>hlt3.out x (by
   rcases List.mem_cons.1 hx with rfl|hx
   ·exact Qx
   ·rw[show P++a::Q=(P++[a])++Q by simp,zac];exact Qo _ (List.mem_append_left _ hx))
  have yj:zxw C b (k+(3+n)) ct r P Q a os sa sc A W4:=zz5 h3.out.1 hup.out (h4.out.1.move (λx hx=>hsame x (hsub x hx))) (h4.out.2.1.move (λe he=>hsame e.m (hlt3.out e.m (by rw[show P++a::Q=(P++[a])++Q by simp,zac];exact Qo _ (List.mem_append_right _ (List.mem_map_of_mem he)))))) qz (by
   rw[pz,hb];exact za3 (za3 (za3 (za3 (za3 (za3 (za3 (za3 h4.out.2.2.2 0 _) 1 _) 2 _) 3 _) 4 _) 5 _) 6 _) 7 _) (by omega)
  have hbz:w3.heap.size<=b:=by omega
  rw[<-pz,<-hb];have dw:=hid (And.intro yj qz);clear pz yj qz hsame h4 j0 yg hsub z0 z1 z2 z3 z4 z5 z6 z7 jf hb;have hSe:=hid (zk1 b 3 177 (madeCells 13 r) Q A W4 dw.out.1.ch dw.out.1.kids dw.out.1.dead dw.out.1.txt dw.out.1.runs);have hx4:bx<W4.heap.size:=Qh hx3 dw.out.2.size;have ng:Hid (W4.heap[bx]?=some (.cells #[.pointer (some ⟨a.m,0,none⟩),.bool o.image,.bool false] 253 (0,0))):=hid ((dw.out.2.block bx hx3 jk).trans qp.out);have jl:bx ∉ b::blks Q:=λhm=>by
   rcases List.mem_cons.1 hm with hm|hm
   ·omega
   ·exact jk (by rw[show P++a::Q=(P++[a])++Q by simp,zac];exact Qo _ (List.mem_append_right _ hm))
  go_wp2_with fail
  refine hSe.out.mono ?_;rintro e w5⟨l',A5,rfl,hS5⟩;have lg:=(hS5.fr.block bx hx4 jl).trans ng.out;have u0:w5.cell? ⟨bx,0,none⟩=some (.pointer (some ⟨a.m,0,none⟩)):=za0 lg 0 _ rfl;have u1:w5.cell? ⟨bx,1,none⟩=some (.bool o.image):=za0 lg 1 _ rfl;have lq:=hid (dw.out.1.cut.frame hS5.fr dw.out.1.sep);have hb5:w5.heap[b]?=some (.cells [.int .i64 13,.string r,.string ⟨#[]⟩,.pointer (hd l' none),.pointer (lst l' none),.int .i64 0,.bool false,.bool false].toArray 177 (0,0)):=hS5.ch.hdr.1;have jh:=hid hS5;have hBel:Hid (Below C w w5):=hid (by
   have hB1:Below C w w1:=hall.out.2.below (Nat.le_of_lt hcl) (by simp);have hB2:Below C w1 w2:=h12.out.mono (Nat.le_of_lt hl1);have hB3:Below C w2 w3:=(hall.out.1.below h12.out).zf6 h3.out.2;have hB4:Below C w3 W4:=h3.out.1.zf6 dw.out.2;have hB5:Below C W4 w5:=hS5.fr.below (by have:=dw.out.1.cut.lt;omega) (λx hx=>by
    have h3l:=h3.out.1.lt;rcases List.mem_cons.1 hx with hx|hx
    ·omega
    ·exact Nat.le_of_lt (h3.out.1.above x (by rw[show P++a::Q=(P++[a])++Q by simp,zac];exact List.mem_append_right _ hx)))
   exact(((hB1.trans hB2).trans hB3).trans hB4).trans hB5)
  have fq:=((seg_append _ _ _ _ _).1 lq.out.ch.seg).2.cells;clear hS5 lg;by_cases hoi:o.image=true
  ·rw[hoi] at u1;have v0:w5.cell? ⟨b,0,none⟩=some (.int .i64 13):=za0 hb5 0 _ rfl;have v1:w5.cell? ⟨b,1,none⟩=some (.string r):=za0 hb5 1 _ rfl;have v2:w5.cell? ⟨b,2,none⟩=some (.string ⟨#[]⟩):=za0 hb5 2 _ rfl;have v3:w5.cell? ⟨b,3,none⟩=some (.pointer (hd l' none)):=za0 hb5 3 _ rfl;have v4:w5.cell? ⟨b,4,none⟩=some (.pointer (lst l' none)):=za0 hb5 4 _ rfl;have v5:w5.cell? ⟨b,5,none⟩=some (.int .i64 0):=za0 hb5 5 _ rfl;have v6:w5.cell? ⟨b,6,none⟩=some (.bool false):=za0 hb5 6 _ rfl;have v7:w5.cell? ⟨b,7,none⟩=some (.bool false):=za0 hb5 7 _ rfl;generalize hkf:hd l' none=kf at v3;generalize hkl:lst l' none=kl at v4;obtain⟨e0,g0⟩:∃e,w5.cell? ⟨a.m,0,none⟩=some e:=⟨_,za0 fq 0 _ rfl⟩;obtain⟨e1,g1⟩:∃e,w5.cell? ⟨a.m,1,none⟩=some e:=⟨_,za0 fq 1 _ rfl⟩;obtain⟨e2,g2⟩:∃e,w5.cell? ⟨a.m,2,none⟩=some e:=⟨_,za0 fq 2 _ rfl⟩;obtain⟨e3,g3⟩:∃e,w5.cell? ⟨a.m,3,none⟩=some e:=⟨_,za0 fq 3 _ rfl⟩;obtain⟨e4,g4⟩:∃e,w5.cell? ⟨a.m,4,none⟩=some e:=⟨_,za0 fq 4 _ rfl⟩;obtain⟨e5,g5⟩:∃e,w5.cell? ⟨a.m,5,none⟩=some e:=⟨_,za0 fq 5 _ rfl⟩;obtain⟨e6,g6⟩:∃e,w5.cell? ⟨a.m,6,none⟩=some e:=⟨_,za0 fq 6 _ rfl⟩;obtain⟨e7,g7⟩:∃e,w5.cell? ⟨a.m,7,none⟩=some e:=⟨_,za0 fq 7 _ rfl⟩;have gf:=za7 fq;have zy:=hid hb5;have wh:=hid fq;clear hb5 fq hga hz hn hk hkn hoj hol hok hsm hdd hI0 hI1 hI2 zk zh yx hn0 qh yc hx3 jk hx4 jl hrs jy hx2 hm1 y0 yd qg hl1 xq;have kr:=hid hkf;have kg:=hid hkl;clear hkf hkl;go_wp2;refine yt.out _ _ ?_;have jw:=hrb.out;have dh:C<=a.m:=Nat.le_of_lt (lq.out.above a.m (by simp[blks]));refine⟨m1,(λx=>A x\/A5 x\/x∈blks l'),hd l' none,lst l' none,rfl,?_,(((((((hBel.out.setCell dh _).setCell dh _).setCell dh _).setCell dh _).setCell dh _).setCell dh _).setCell dh _).setCell dh _⟩;rw[hoi];have hfin:=zgk (kd:=13) (t:=t) dw.out.1 jh.out lq.out hup.out (Qc _) (λ_ _=>rfl) (((((((((Fr.refl [a.m] w5).setCell ⟨a.m,0,none⟩ (.inl (by simp)) (.int .i64 13)).setCell ⟨a.m,1,none⟩ (.inl (by simp)) (.string r)).setCell ⟨a.m,2,none⟩ (.inl (by simp)) (.string ⟨#[]⟩)).setCell ⟨a.m,3,none⟩ (.inl (by simp)) (.pointer kf)).setCell ⟨a.m,4,none⟩ (.inl (by simp)) (.pointer kl)).setCell ⟨a.m,5,none⟩ (.inl (by simp)) (.int .i64 0)).setCell ⟨a.m,6,none⟩ (.inl (by simp)) (.bool false)).setCell ⟨a.m,7,none⟩ (.inl (by simp)) (.bool false)) (by
    have hb:=za3 (za3 (za3 (za3 (za3 (za3 (za3 (za3 wh.out 0 (.int .i64 13)) 1 (.string r)) 2 (.string ⟨#[]⟩)) 3 (.pointer kf)) 4 (.pointer kl)) 5 (.int .i64 0)) 6 (.bool false)) 7 (.bool false);rw[<-jw,<-kr.out,<-kg.out] at hb ⊢;exact hb)
   rw[yw.out] at hfin;exact hfin
  ·have mh:o.image=false:=by simpa using hoi
   rw[mh] at u1;have v0:w5.cell? ⟨b,0,none⟩=some (.int .i64 13):=za0 hb5 0 _ rfl;have vf:=za7 hb5;obtain⟨jm,jq⟩:=Qzz (w5.setCell ⟨b,0,none⟩ (.int .i64 12));have dx:Fr [b] w5 jm:=by rw[jq];exact(Fr.refl _ _).setCell _ (.inl (by simp)) _
   have jd:jm.heap[b]?=some (.cells [.int .i64 12,.string r,.string ⟨#[]⟩,.pointer (hd l' none),.pointer (lst l' none),.int .i64 0,.bool false,.bool false].toArray 177 (0,0)):=by rw[jq];exact za3 hb5 0 _
   have hsb:=dw.out.1.sep b Qx;have qb:=lq.out.frame dx (λx hx=>by simp at hx;subst hx;exact hsb);have hEa:=hid (zun C ct (k+(3+n)) (k+(3+n)) (P++[a]) os sa sc A jm qb hol);have hown:∀x,x∈ownL sa->(Value.slice sa os.length sc).ownBlock=some x:=λx hx=>by cases sa<;>simp[ownL] at hx;subst hx;rfl
   have gy:b<w5.heap.size:=(Qq.1 hb5).1;have zm:W4.heap.size<=w5.heap.size:=jh.out.fr.size;have bg:jm.heap[bx]?=some (.cells #[.pointer (some ⟨a.m,0,none⟩),.bool o.image,.bool false] 253 (0,0)):=by
    rw[dx.block bx (by omega) (by simp;omega),jh.out.fr.block bx hx4 jl];exact ng.out
   have gq:bx ∉ ownL sa:=λhm=>by
    have:=((hall.out.1.own.lt bx (hown bx hm))).2;have:=vg.out;omega
   have ny:b ∉ ownL sa:=λhm=>hsb.2.2 (hown b hm).symm;have hrest:=hid (And.intro dx (And.intro jd (And.intro bg (And.intro gq (And.intro ny (And.intro gy hx4))))));have zq:=hup;have qy:=hid jq;have tq:=hid hbz;clear hb5 fq hga hz hn hk hkn hoj hol hok hsm hdd hI0 hI1 hI2 zk zh yx hn0 qh yc hx3 jk hx4 jl hrs jy hx2 hm1 y0 yd qg hl1 xq dx jd hsb qb hown gy bg gq ny zm hbz;go_wp2_with (fail);rw[<-qy.out];refine hEa.out.mono ?_;rintro e w6⟨rfl,wm,qj⟩;obtain⟨dx,jd,bg,gq,ny,gy,hx4⟩:=hrest.out;have qx:w5.heap.size<=jm.heap.size:=dx.size;have hb6:=(qj.block b (by omega) ny).trans jd;have mq:=(qj.block bx (Qq.1 bg).1 gq).trans bg;have jg:=((seg_append _ _ _ _ _).1 wm.ch.seg).2.cells;have u0':w6.cell? ⟨bx,0,none⟩=some (.pointer (some ⟨a.m,0,none⟩)):=za0 mq 0 _ rfl;have y0:w6.cell? ⟨b,0,none⟩=some (.int .i64 12):=za0 hb6 0 _ rfl;have y1:w6.cell? ⟨b,1,none⟩=some (.string r):=za0 hb6 1 _ rfl;have y2:w6.cell? ⟨b,2,none⟩=some (.string ⟨#[]⟩):=za0 hb6 2 _ rfl;have y3:w6.cell? ⟨b,3,none⟩=some (.pointer (hd l' none)):=za0 hb6 3 _ rfl;have y4:w6.cell? ⟨b,4,none⟩=some (.pointer (lst l' none)):=za0 hb6 4 _ rfl;have y5:w6.cell? ⟨b,5,none⟩=some (.int .i64 0):=za0 hb6 5 _ rfl;have y6:w6.cell? ⟨b,6,none⟩=some (.bool false):=za0 hb6 6 _ rfl;have y7:w6.cell? ⟨b,7,none⟩=some (.bool false):=za0 hb6 7 _ rfl;generalize hkf:hd l' none=kf at y3;generalize hkl:lst l' none=kl at y4;obtain⟨e0,g0⟩:∃e,w6.cell? ⟨a.m,0,none⟩=some e:=⟨_,za0 jg 0 _ rfl⟩;obtain⟨e1,g1⟩:∃e,w6.cell? ⟨a.m,1,none⟩=some e:=⟨_,za0 jg 1 _ rfl⟩;obtain⟨e2,g2⟩:∃e,w6.cell? ⟨a.m,2,none⟩=some e:=⟨_,za0 jg 2 _ rfl⟩;obtain⟨e3,g3⟩:∃e,w6.cell? ⟨a.m,3,none⟩=some e:=⟨_,za0 jg 3 _ rfl⟩;obtain⟨e4,g4⟩:∃e,w6.cell? ⟨a.m,4,none⟩=some e:=⟨_,za0 jg 4 _ rfl⟩;obtain⟨e5,g5⟩:∃e,w6.cell? ⟨a.m,5,none⟩=some e:=⟨_,za0 jg 5 _ rfl⟩;obtain⟨e6,g6⟩:∃e,w6.cell? ⟨a.m,6,none⟩=some e:=⟨_,za0 jg 6 _ rfl⟩;obtain⟨e7,g7⟩:∃e,w6.cell? ⟨a.m,7,none⟩=some e:=⟨_,za0 jg 7 _ rfl⟩;have gf:=za7 jg;have kr:=hid hkf;have kg:=hid hkl;have h6:=hid (And.intro wm qj);have vw:=hid jg;clear hkf hkl wm qj hb6 mq jg dx jd bg gq ny gy hx4 qx u0 u1 v0 vf;go_wp2;refine yt.out _ _ ?_;have jw:=hrb.out;obtain⟨dx,_,_,_,_,gy,_⟩:=hrest.out;have dh:C<=a.m:=Nat.le_of_lt (lq.out.above a.m (by simp[blks]));have pq:Below C w w6:=(hBel.out.trans (dx.below (by have:=lq.out.lt;omega) (λx hx=>by simp at hx;subst hx;have:=h3.out.1.lt;have:=tq.out;omega))).trans (h6.out.2.below (by have:=h6.out.1.lt;have:=lq.out.lt;have:=dx.size;omega) (λx hx=>by have:=(h6.out.1.own.lt x (zqj hx)).1;omega));refine⟨m1,(λx=>A x\/A5 x\/x∈blks l'),hd l' none,lst l' none,rfl,?_,(((((((pq.setCell dh _).setCell dh _).setCell dh _).setCell dh _).setCell dh _).setCell dh _).setCell dh _).setCell dh _⟩;rw[mh];have hfin:=zgk (kd:=12) (t:=t) dw.out.1 jh.out h6.out.1 (λx hx=>by obtain⟨y,hy,rfl⟩:=List.mem_map.1 hx;exact hup.out y hy) (Qj dx.size h6.out.2.size) (zqo dw.out.1 jh.out dx h6.out.2) (((((((((Fr.refl [a.m] w6).setCell ⟨a.m,0,none⟩ (.inl (by simp)) (.int .i64 12)).setCell ⟨a.m,1,none⟩ (.inl (by simp)) (.string r)).setCell ⟨a.m,2,none⟩ (.inl (by simp)) (.string ⟨#[]⟩)).setCell ⟨a.m,3,none⟩ (.inl (by simp)) (.pointer kf)).setCell ⟨a.m,4,none⟩ (.inl (by simp)) (.pointer kl)).setCell ⟨a.m,5,none⟩ (.inl (by simp)) (.int .i64 0)).setCell ⟨a.m,6,none⟩ (.inl (by simp)) (.bool false)).setCell ⟨a.m,7,none⟩ (.inl (by simp)) (.bool false)) (by
    have hb:=za3 (za3 (za3 (za3 (za3 (za3 (za3 (za3 vw.out 0 (.int .i64 12)) 1 (.string r)) 2 (.string ⟨#[]⟩)) 3 (.pointer kf)) 4 (.pointer kl)) 5 (.int .i64 0)) 6 (.bool false)) 7 (.bool false);rw[<-jw,<-kr.out,<-kg.out] at hb ⊢;exact hb)
   rw[yw.out] at hfin;exact hfin
end Go.Proofs.YtlojgpkajkedeaaGreatDoor
