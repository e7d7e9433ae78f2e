import Derived.Test.YtlojgpkajkedeaaGreatDoorNE8
import Derived.Test.YtlojgpkajkedeaaGreatDoorND4
import Derived.Test.YtlojgpkajkedeaaGreatDoorNW14
set_option maxHeartbeats 16000000
set_option maxRecDepth 100000
namespace Go.Proofs.YtlojgpkajkedeaaGreatDoor
open Go.RowKit Go.Proofs.Tryz
structure Opn where
 j:Nat
 image:Bool
 dead:Bool
def zb8 (ms:List Mem)(os:List Opn):List Value:=(os.map (λx=>[Value.pointer ((ms[x.j]?).map Mem.ad),.bool x.image,.bool x.dead])).flatten
def zbq (ct:ByteArray)(f k:Nat)(sl:Value):List Value:=[.string ct,.int .i64 (f:Nat),.int .i64 (k:Nat),undef,undef,sl]
structure Cut (C:Nat)(ct:ByteArray)(f k:Nat)(ms:List Mem)(os:List Opn)(sa:Option Addr)(sc:Nat)(A:Nat->Prop)(w:World):Prop where
 ch:Ch w C 3 168 (zbq ct f k (.slice sa os.length sc)) ms
 kids:Kd w A ms
 dead:∀x,A x->x<w.heap.size/\x ∉ C::blks ms/\some x≠(Value.slice sa os.length sc).ownBlock
 own:w.ownsRow (C+1) 253 3 (.slice sa os.length sc) os.length (zb8 ms os)
 sep:∀x∈blks ms,some x≠(Value.slice sa os.length sc).ownBlock
 above:∀x∈blks ms,C<x
 inl:∀x∈os,x.j<ms.length
 up:os.Pairwise (λx y=>x.j<y.j)
 fk:f<=k
 kl:k<=ct.size
 small:ct.size<=1000000
 bytes:txt (ms.map Mem.p)<=f
 runs:∀x∈ms,x.p.rs<=1000000
theorem Cut.cells {C:Nat}{ct:ByteArray}{f k:Nat}{ms:List Mem}{os:List Opn}{sa:Option Addr}{sc:Nat}{A:Nat->Prop}{w:World}(h:Cut C ct f k ms os sa sc A w):w.heap[C]?=some (.cells [.string ct,.int .i64 (f:Nat),.int .i64 (k:Nat),.pointer (hd ms none),.pointer (lst ms none),.slice sa os.length sc].toArray 168 (0,0)):=h.ch.hdr.1
theorem Cut.lt {C:Nat}{ct:ByteArray}{f k:Nat}{ms:List Mem}{os:List Opn}{sa:Option Addr}{sc:Nat}{A:Nat->Prop}{w:World}(h:Cut C ct f k ms os sa sc A w):C<w.heap.size:=h.ch.lt
theorem Cut.below {C:Nat}{ct:ByteArray}{f k:Nat}{ms:List Mem}{os:List Opn}{sa:Option Addr}{sc:Nat}{A:Nat->Prop}{w w':World}(h:Cut C ct f k ms os sa sc A w)(hb:Below w.heap.size w w'):Cut C ct f k ms os sa sc A w':=
 ⟨h.ch.move (λx hx=>hb.block x (by rcases List.mem_cons.1 hx with rfl|hx;exact h.ch.lt;exact h.ch.mlt x hx)),λe he=>(h.kids e he).move (λx hx=>hx) (λx hx=>hb.block x (h.dead x hx).1),λx hx=>⟨Qh (h.dead x hx).1 hb.size,(h.dead x hx).2⟩,
  h.own.kept (Below.zfn hb) (by
   cases h:(Value.slice sa os.length sc).ownBlock with
   | none=>exact .inl rfl
   | some g=>exact .inr (by simp)),h.sep,h.above,h.inl,h.up,h.fk,h.kl,h.small,h.bytes,h.runs⟩
theorem zeh (C:Nat)(ct:ByteArray)(f k:Nat)(x3 x4 x5:Value)(w:World)(h:w.heap[C]?=some (.cells [.string ct,.int .i64 (f:Nat),.int .i64 (k:Nat),x3,x4,x5].toArray 168 (0,0)))(hk:k<=ct.size):Calls prog 154 #[.pointer (some ⟨C,0,none⟩)] w λe w'=>e=.returned (.string (ct.extract k ct.size))/\w.drew=w':=by
 have q0:w.cell? ⟨C,0,none⟩=some (.string ct):=za0 h 0 _ rfl;have q2:w.cell? ⟨C,2,none⟩=some (.int .i64 (k:Nat)):=za0 h 2 _ rfl;clear h;go_enter func154,ntmps154;go_wp2_with fail
 go_region
 go_wp2;go_ret;exact⟨rfl,rfl⟩
theorem zdm (C:Nat)(ct t:ByteArray)(f k:Nat)(x3 x4 x5:Value)(w:World)(h:w.heap[C]?=some (.cells [.string ct,.int .i64 (f:Nat),.int .i64 (k:Nat),x3,x4,x5].toArray 168 (0,0)))(hk:k<=ct.size):Calls prog 159 #[.pointer (some ⟨C,0,none⟩),.string t] w λe w'=>e=.returned (.bool (Lib.hasPrefix (ct.data.toList.drop k) t.data.toList))/\w.drew=w':=by
 have hR:=hid (zeh C ct f k x3 x4 x5 w h hk);have hP:=hid (λwx=>Tryz.strings_HasPrefix (ct.extract k ct.size) t wx);rw[zbi] at hP;clear h;go_enter func159,ntmps159;go_wp2_with fail
 refine hR.out.mono ?_;rintro e w'⟨rfl,rfl⟩;go_wp2_with fail
 refine(hP.out _).mono ?_;rintro e w'⟨rfl,rfl⟩;go_wp2;go_ret;exact⟨rfl,rfl⟩
theorem zd9 (ms r:List Mem)(os:List Opn)(h:∀x∈os,x.j<ms.length):zb8 (ms++r) os=zb8 ms os:=by
 unfold zb8;congr 1
 apply List.map_congr_left
 intro x hx;rw[Qbd (h x hx)]
theorem Cut.grow {C:Nat}{ct:ByteArray}{f k f' k':Nat}{ms r:List Mem}{os:List Opn}{sa:Option Addr}{sc:Nat}{A A':Nat->Prop}{w w':World}(h:Cut C ct f k ms os sa sc A w)(hc:Ch w' C 3 168 (zbq ct f' k' (.slice sa os.length sc)) (ms++r))(hf:Fr (C::blks ms) w w')(hm:∀x∈blks r,w.heap.size<=x)(hk:Kd w' A' r)(hA:∀x,A x->A' x)(hA':∀x,A' x->A x\/(w.heap.size<=x/\x<w'.heap.size/\x ∉ blks r))(ht:txt (ms.map Mem.p)+txt (r.map Mem.p)<=f')(hfk:f'<=k')(hkl:k'<=ct.size)(hr:∀x∈r,x.p.rs<=1000000):Cut C ct f' k' (ms++r) os sa sc A' w':=by
 have hlt:=h.own.lt;have bg:=h.lt;have hb:blks (ms++r)=blks ms++blks r:=zac _ _;have hown:w'.ownsRow (C+1) 253 3 (.slice sa os.length sc) os.length (zb8 (ms++r) os):=by
  rw[zd9 _ _ _ h.inl];rcases h.own.2 with h2|⟨g,cap,cur,hv,hg,hh,r'⟩
  ·exact⟨h.own.1,.inl h2⟩
  ·refine⟨h.own.1,.inr ⟨g,cap,cur,hv,hg,?_,r'⟩⟩;have hgo:(Value.slice sa os.length sc).ownBlock=some g:=by rw[hv];rfl
   rw[hf.block g (hlt g hgo).2 (λhm=>by
    rcases List.mem_cons.1 hm with hm|hm
    ·have:=(hlt g hgo).1;omega
    ·exact h.sep g hm hgo.symm)]
   exact hh
 refine⟨hc,?_,?_,hown,?_,?_,?_,h.up,hfk,hkl,h.small,?_,?_⟩
 ·intro x hx;rcases Qbh.1 hx with hx|hx
  ·exact(h.kids x hx).move hA (λy hy=>hf.block y (h.dead y hy).1 (h.dead y hy).2.1)
  ·exact hk x hx
 ·intro x hx;rw[hb];rcases hA' x hx with h1|h1
  ·have h2:=h.dead x h1;refine⟨Qh h2.1 hf.size,λhm'=>?_,h2.2.2⟩;rcases List.mem_cons.1 hm' with hm' | hm'
   ·exact h2.2.1 (by rw[hm'];exact Qx)
   ·rcases Qbh.1 hm' with hm' | hm'
    ·exact h2.2.1 (Qo _ hm')
    ·have:=hm x hm';omega
  ·refine⟨h1.2.1,λhm'=>?_,λe=>?_⟩
   ·rcases List.mem_cons.1 hm' with hm' | hm'
    ·omega
    ·rcases Qbh.1 hm' with hm' | hm'
     ·have:=h.ch.mlt x hm';omega
     ·exact h1.2.2 hm'
   ·have:=(hlt _ e.symm).2;omega
 ·intro x hx;rw[hb] at hx;rcases Qbh.1 hx with hx|hx
  ·exact h.sep x hx
  ·intro e1;have:=(hlt _ e1.symm).2;have:=hm x hx;omega
 ·intro x hx;rw[hb] at hx;rcases Qbh.1 hx with hx|hx
  ·exact h.above x hx
  ·have:=hm x hx;omega
 ·intro x hx;have:=h.inl x hx;simp;omega
 ·rw[Qv,zeb];exact ht
 ·intro x hx;rcases Qbh.1 hx with hx|hx
  ·exact h.runs x hx
  ·exact hr x hx
theorem Cut.zf6 {C:Nat}{ct:ByteArray}{f k:Nat}{ms:List Mem}{os:List Opn}{sa:Option Addr}{sc:Nat}{A:Nat->Prop}{w w':World}(h:Cut C ct f k ms os sa sc A w)(hf:Fr (C::blks ms) w w'):Below C w w':=
 hf.below (Nat.le_of_lt h.lt) (λx hx=>by rcases List.mem_cons.1 hx with rfl|hx;exact Qc _;exact Nat.le_of_lt (h.above x hx))
def zbk (t:List UInt8):Pt:=.mk 8 [] t [] 0 false false
def zcu (ct:ByteArray)(f k:Nat)(m:Nat):List Mem:=if f<k then [⟨m,zbk ((ct.data.toList.drop f).take (k-f)),none,none⟩] else []
theorem Ch.set1 {w:World}{C f k n:Nat}{ct:ByteArray}{sl:Value}{ms:List Mem}(h:Ch w C 3 168 (zbq ct f k sl) ms):Ch (w.setCell ⟨C,1,none⟩ (.int .i64 (n:Nat))) C 3 168 (zbq ct n k sl) ms:=
 ⟨h.seg.zan _ h.out _,⟨za3 h.hdr.1 1 (.int .i64 (n:Nat)),by show 3+1<6;omega⟩,h.nodup,h.out⟩
theorem Ch.set2 {w:World}{C f k n:Nat}{ct:ByteArray}{sl:Value}{ms:List Mem}(h:Ch w C 3 168 (zbq ct f k sl) ms):Ch (w.setCell ⟨C,2,none⟩ (.int .i64 (n:Nat))) C 3 168 (zbq ct f n sl) ms:=
 ⟨h.seg.zan _ h.out _,⟨za3 h.hdr.1 2 (.int .i64 (n:Nat)),by show 3+1<6;omega⟩,h.nodup,h.out⟩
theorem zo7 (C:Nat)(ct:ByteArray)(f k n:Nat)(ms:List Mem)(os:List Opn)(sa:Option Addr)(sc:Nat)(A:Nat->Prop)(w:World)(h:Cut C ct f k ms os sa sc A w)(hn:k+n<=ct.size):Calls prog 152 #[.pointer (some ⟨C,0,none⟩),.int .i64 (n:Nat)] w λe w'=>∃m,e=.returned (.tuple #[])/\w.heap.size<=m/\Cut C ct (k+n) (k+n) (ms++zcu ct f k m) os sa sc A w'/\Fr (C::blks ms) w w':=by
 have hcl:=h.lt;have hc:=h.cells;have q0:w.cell? ⟨C,0,none⟩=some (.string ct):=za0 hc 0 _ rfl;have q1:w.cell? ⟨C,1,none⟩=some (.int .i64 (f:Nat)):=za0 hc 1 _ rfl;have q2:w.cell? ⟨C,2,none⟩=some (.int .i64 (k:Nat)):=za0 hc 2 _ rfl;have qf:=za7 hc;have dw:=h.fk;have hkl:=h.kl;have hsm:=h.small;have hH:=hid h;have hab:=hid h.above;by_cases hlt:f<k
 ·have hlt':(f:Int)<(k:Int):=by omega
  have hfi:(f:Int)<=(k:Int):=by omega
  have hki:(k:Int)<=(ct.size:Int):=by omega
  have dx:(0:Int)<=(f:Int):=by omega
  have hxt:Hid (Value.string (ct.extract f k)=.string (S.B ((ct.data.toList.drop f).take (k-f)))):=hid (by rw[<-zd4,S.zbp]);have hA:=hid (λ(wx:World) (hx:wx.heap=w.heap)=>zk6 C 3 168 (zbq ct f k (.slice sa os.length sc)) ms (zbk ((ct.data.toList.drop f).take (k-f))) none none wx (hH.out.ch.move (λx _=>by rw[hx])));have hpv:zhq (zbk ((ct.data.toList.drop f).take (k-f))) none none=.agg #[.int .i64 8,.string ⟨#[]⟩,.string (ct.extract f k),.pointer none,.pointer none,.int .i64 0,.bool false,.bool false]:=by rw[hxt.out];rfl
  rw[hpv] at hA;clear h hc hpv;go_enter func152,ntmps152;go_wp2_with fail
  go_region
  go_wp2_with fail
  go_region_held3 (λw'=>w'.cell? ⟨C,0,none⟩=some (.string ct)/\w'.cell? ⟨C,1,none⟩=some (.int .i64 (f:Nat))/\w'.cell? ⟨C,2,none⟩=some (.int .i64 (k:Nat)))
   ((refine⟨?_,?_,?_⟩<;>assumption))
   ((go_at_call 196;refine(hA.out w.drew.drew rfl).mono ?_;rintro e w1⟨rfl,bg,hf1,hs1⟩;have hc1:=bg.hdr.1;have k0:w1.cell? ⟨C,0,none⟩=some (.string ct):=za0 hc1 0 _ rfl;have k1:w1.cell? ⟨C,1,none⟩=some (.int .i64 (f:Nat)):=za0 hc1 1 _ rfl;have k2:w1.cell? ⟨C,2,none⟩=some (.int .i64 (k:Nat)):=za0 hc1 2 _ rfl))
  have g1:=za7 hc1;have hall:=hid (And.intro bg (And.intro hf1 hs1));clear bg hf1 hs1 hc1;go_wp2;go_end0;obtain⟨bg,hf1,hs1⟩:=hall.out;have hC2:=(bg.set2 (n:=k+n)).set1 (n:=k+n);have hfr:Fr (C::blks ms) w ((w1.setCell ⟨C,2,none⟩ (.int .i64 ((k+n:Nat):Int))).setCell ⟨C,1,none⟩ (.int .i64 ((k+n:Nat):Int))):=((((Fr.refl _ w).drew.drew).trans hf1 (λx hx=>.inl hx)).setCell _ (.inl (by simp)) _).setCell _ (.inl (by simp)) _;have hms:zcu ct f k (w.heap.size+1)=[⟨w.heap.size+1,zbk ((ct.data.toList.drop f).take (k-f)),none,none⟩]:=by unfold zcu;rw[if_pos hlt]
  refine⟨w.heap.size+1,rfl,Nat.le_succ _,?_,hfr⟩;rw[hms];refine hH.out.grow hC2 hfr (λx hx=>by simp[blks] at hx;omega) (λe he=>by simp at he;subst he;exact .nil) (λx hx=>hx) (λx hx=>.inl hx) ?_ (Qc _) hn (λx hx=>by simp at hx;subst hx;simp[zbk,Pt.rs]);have hb:=hH.out.bytes;have:((ct.data.toList.drop f).take (k-f)).length=k-f:=by rw[Ql,Qf,S.lda];omega
  simp only[Qs,List.map_nil,ziq,zbk,Pt.text,this];simp[txt] at hb ⊢;omega
 ·have hfe:f=k:=by omega
  subst hfe;clear h hc;go_enter func152,ntmps152;go_wp2_with fail
  go_region
  go_wp2;go_end0;have hC2:=(hH.out.ch.set2 (n:=f+n)).set1 (n:=f+n);have hfr:Fr (C::blks ms) w ((w.setCell ⟨C,2,none⟩ (.int .i64 ((f+n:Nat):Int))).setCell ⟨C,1,none⟩ (.int .i64 ((f+n:Nat):Int))).drew:=((((Fr.refl _ w)).setCell _ (.inl (by simp)) _).setCell _ (.inl (by simp)) _).drew;have hms:zcu ct f f w.heap.size=[]:=by unfold zcu;rw[if_neg hlt]
  refine⟨w.heap.size,rfl,Qc _,?_,hfr⟩;rw[hms];have dh:Ch ((w.setCell ⟨C,2,none⟩ (.int .i64 ((f+n:Nat):Int))).setCell ⟨C,1,none⟩ (.int .i64 ((f+n:Nat):Int))).drew C 3 168 (zbq ct (f+n) (f+n) (.slice sa os.length sc)) (ms++[]):=by rw[Qbk];exact hC2.move (λx _=>rfl)
  refine hH.out.grow (r:=[]) dh hfr (λx hx=>by simp[blks] at hx) (λe he=>by simp at he) (λx hx=>hx) (λx hx=>.inl hx) ?_ (Qc _) hn (λx hx=>by simp at hx);have hb:=hH.out.bytes;simp[txt] at hb ⊢;omega
theorem Cut.more {C:Nat}{ct:ByteArray}{f k:Nat}{ms:List Mem}{os:List Opn}{sa:Option Addr}{sc:Nat}{A A':Nat->Prop}{w w':World}(h:Cut C ct f k ms os sa sc A w)(hb:Below w.heap.size w w')(hA:∀x,A x->A' x)(hA':∀x,A' x->A x\/(w.heap.size<=x/\x<w'.heap.size)):Cut C ct f k ms os sa sc A' w':=by
 have h':=h.below hb;refine⟨h'.ch,λe he=>(h'.kids e he).move hA (λ_ _=>rfl),λx hx=>?_,h'.own,h'.sep,h'.above,h'.inl,h'.up,h'.fk,h'.kl,h'.small,h'.bytes,h'.runs⟩;rcases hA' x hx with h1|h1
 ·exact h'.dead x h1
 ·refine⟨h1.2,λhm=>?_,λe=>?_⟩
  ·rcases List.mem_cons.1 hm with hm|hm
   ·have:=h.lt;omega
   ·have:=h.ch.mlt x hm;omega
  ·have:=(h.own.lt _ e.symm).2;omega
theorem z0t {C:Nat}{ct:ByteArray}{f k:Nat}{ms:List Mem}{os:List Opn}{sa:Option Addr}{sc:Nat}{A:Nat->Prop}{w:World}(h:Cut C ct f k ms os sa sc A w)(m:Nat):txt ((ms++zcu ct f k m).map Mem.p)<=k:=by
 have h1:=h.bytes;have h2:=h.fk;have h3:=h.kl;rw[Qv,zeb];unfold zcu;split
 ·have:((ct.data.toList.drop f).take (k-f)).length=k-f:=by rw[Ql,Qf,S.lda];omega
  simp only[Qs,List.map_nil,ziq,zbk,Pt.text,this];simp[txt] at h1 ⊢;omega
 ·simp[txt] at h1 ⊢;omega
theorem zfw {w w':World}{b:Nat}(h:w'.heap[b]?=w.heap[b]?)(o:Nat):w'.cell? ⟨b,o,none⟩=w.cell? ⟨b,o,none⟩:=by simp only[World.cell?];rw[h]
theorem zm2 (C:Nat)(ct:ByteArray)(f k n:Nat)(ms:List Mem)(os:List Opn)(sa:Option Addr)(sc:Nat)(A:Nat->Prop)(p:Pt)(kf kl:Option Addr)(w:World)(h:Cut C ct f k ms os sa sc A w)(hn:k+n<=ct.size)(hp:p.text.length<=n)(hr:p.rs<=1000000)(hk:KRep w A kf p.kids):Calls prog 162 #[.pointer (some ⟨C,0,none⟩),zhq p kf kl,.int .i64 (n:Nat)] w λe w'=>∃m1 m2,e=.returned (.pointer (some ⟨m2,0,none⟩))/\w.heap.size<=m1/\w.heap.size<=m2/\Cut C ct (k+n) (k+n) ((ms++zcu ct f k m1)++[⟨m2,p,kf,kl⟩]) os sa sc A w'/\Fr (C::blks ms) w w':=by
 obtain⟨v0,v1,v2,v3,v4,v5,v6,v7,hpv⟩:∃v0 v1 v2 v3 v4 v5 v6 v7,zhq p kf kl=.agg #[v0,v1,v2,v3,v4,v5,v6,v7]:=⟨_,_,_,_,_,_,_,_,rfl⟩;have hcl:=h.lt;obtain⟨wb,hwb⟩:=Qzz (w.alloc (.cells #[v0,v1,v2,v3,v4,v5,v6,v7] 177));have hbx:wb.heap[w.heap.size]?=some (.cells #[v0,v1,v2,v3,v4,v5,v6,v7] 177 (0,0)):=by rw[hwb];exact za1 _ _
 have hbs:wb.heap.size=w.heap.size+1:=by rw[hwb];simp
 have bg:Cut C ct f k ms os sa sc A wb:=h.below (by rw[hwb];exact(Below.refl _ _).alloc (Qc _) _);have dw:Fr (C::blks ms) w wb:=by rw[hwb];exact(Fr.refl _ w).alloc _
 have hS:=hid (zo7 C ct f k n ms os sa sc A wb bg hn);have hkb:KRep wb A kf p.kids:=hk.move (λx hx=>hx) (λx hx=>dw.block x (h.dead x hx).1 (h.dead x hx).2.1);have hT:=hid (λm=>z0t bg m);have hH:=hid (And.intro bg (And.intro hkb dw));have hA:=hid (λ(w1:World) (l:List Mem) (h1:Ch w1 C 3 168 (zbq ct (k+n) (k+n) (.slice sa os.length sc)) l)=>zk6 C 3 168 (zbq ct (k+n) (k+n) (.slice sa os.length sc)) l p kf kl w1 h1);have hnb:w.heap.size ∉ C::blks ms:=λhm=>by
  rcases List.mem_cons.1 hm with hm|hm
  ·omega
  ·have:=h.ch.mlt _ hm;omega
 clear h hk bg hkb dw;rw[hpv] at hA ⊢;go_enter func162,ntmps162;go_wp2_with fail
 rw[<-hwb];refine hS.out.mono ?_;rintro e w1⟨m1,rfl,hm1,dh,hf1⟩;have hn1:w.heap.size ∉ C::blks (ms++zcu ct f k m1):=λhm=>by
  rw[zac] at hm;rcases List.mem_cons.1 hm with hm|hm
  ·omega
  ·rcases Qbh.1 hm with hm|hm
   ·exact hnb (Qo _ hm)
   ·unfold zcu at hm;split at hm<;>simp[blks] at hm;omega
 have hs1:=hf1.size;have hb1:w1.heap[w.heap.size]?=some (.cells #[v0,v1,v2,v3,v4,v5,v6,v7] 177 (0,0)):=by rw[hf1.block _ (by omega) hnb];exact hbx
 have k0:w1.cell? ⟨w.heap.size,0,none⟩=some v0:=za0 hb1 0 _ rfl;have k1:w1.cell? ⟨w.heap.size,1,none⟩=some v1:=za0 hb1 1 _ rfl;have k2:w1.cell? ⟨w.heap.size,2,none⟩=some v2:=za0 hb1 2 _ rfl;have k3:w1.cell? ⟨w.heap.size,3,none⟩=some v3:=za0 hb1 3 _ rfl;have k4:w1.cell? ⟨w.heap.size,4,none⟩=some v4:=za0 hb1 4 _ rfl;have k5:w1.cell? ⟨w.heap.size,5,none⟩=some v5:=za0 hb1 5 _ rfl;have k6:w1.cell? ⟨w.heap.size,6,none⟩=some v6:=za0 hb1 6 _ rfl;have k7:w1.cell? ⟨w.heap.size,7,none⟩=some v7:=za0 hb1 7 _ rfl;have hA1:=hid (λwx (hx:wx.heap=w1.heap)=>hA.out wx (ms++zcu ct f k m1) (dh.ch.move (λx _=>by rw[hx])));have h1:=hid (And.intro dh hf1);clear dh hf1 hb1;go_wp2_with fail
 go_region_held3 (λw'=>w'.cell? ⟨w.heap.size,0,none⟩=some v0/\w'.cell? ⟨w.heap.size,1,none⟩=some v1/\w'.cell? ⟨w.heap.size,2,none⟩=some v2/\w'.cell? ⟨w.heap.size,3,none⟩=some v3/\w'.cell? ⟨w.heap.size,4,none⟩=some v4/\w'.cell? ⟨w.heap.size,5,none⟩=some v5/\w'.cell? ⟨w.heap.size,6,none⟩=some v6/\w'.cell? ⟨w.heap.size,7,none⟩=some v7)
  ((refine⟨?_,?_,?_,?_,?_,?_,?_,?_⟩<;>assumption))
  ((go_at_call 196;refine(hA1.out w1.drew rfl).mono ?_;rintro e w2⟨rfl,hC2,hf2,hs2⟩;have hbb:=λ(o:Nat)=>zfw (hf2.block w.heap.size (by show w.heap.size<w1.heap.size;omega) hn1) o;have j0:=(hbb 0).trans k0;have j1:=(hbb 1).trans k1;have j2:=(hbb 2).trans k2;have j3:=(hbb 3).trans k3;have j4:=(hbb 4).trans k4;have j5:=(hbb 5).trans k5;have j6:=(hbb 6).trans k6;have j7:=(hbb 7).trans k7))
 have h2:=hid (And.intro hC2 (And.intro hf2 hs2));clear hC2 hf2 hs2;go_wp2;go_ret;obtain⟨bg,hkb,dw⟩:=hH.out;obtain⟨dh,hf1⟩:=h1.out;obtain⟨hC2,hf2,hs2⟩:=h2.out;have hz:w1.drew.heap.size=w1.heap.size:=rfl;have dx:Ch w2 C 3 168 (zbq ct (k+n) (k+n) (.slice sa os.length sc)) ((ms++zcu ct f k m1)++[⟨w1.heap.size+1,p,kf,kl⟩]):=hC2;refine⟨m1,w1.heap.size+1,rfl,by omega,by omega,?_,?_⟩
 ·refine dh.grow dx (((Fr.refl _ w1).drew).trans hf2 (λx hx=>.inl hx)) (λx hx=>by simp[blks] at hx;omega) (λe he=>?_) (λx hx=>hx) (λx hx=>.inl hx) ?_ (Qc _) hn (λx hx=>by simp at hx;subst hx;exact hr)
  ·simp at he;subst he;exact hkb.move (λx hx=>hx) (λx hx=>by
    have hdd:=dh.dead x hx;rw[hf2.block x hdd.1 hdd.2.1];have hd0:=bg.dead x hx;exact hf1.block x hd0.1 hd0.2.1)
  ·have:=hT.out m1;simp only[Qs,List.map_nil,ziq];simp[txt] at this ⊢;omega
 ·refine dw.trans (hf1.trans (((Fr.refl _ w1).drew).trans hf2 (λx hx=>.inl hx)) (λx hx=>?_)) (λx hx=>.inl hx);rw[zac] at hx;rcases List.mem_cons.1 hx with hx|hx
  ·exact .inl (by rw[hx];exact Qx)
  ·rcases Qbh.1 hx with hx|hx
   ·exact .inl (Qo _ hx)
   ·unfold zcu at hx;split at hx<;>simp[blks] at hx;exact .inr (by omega)
theorem S.zqd (l:List UInt8)(i:Nat)(b:UInt8)(h:Lib.hasPrefix (l.drop i) [b]=true):i<l.length:=by
 by_cases hi:i<l.length
 ·exact hi
 ·rw[Qw (by omega)] at h;simp[Lib.hasPrefix] at h
theorem S.zyu (l:List UInt8)(h:S.zdb l=true):(S.zck l).length+2<=l.length:=by
 unfold S.zdb at h;rw[Bool.and_eq_true] at h;have h1:=S.zqd l _ _ h.2;have h2:1<=S.zdf l:=by unfold S.zdf S.colon;omega
 unfold S.zck;rw[Ql,Qf];omega
theorem S.zvf (l:List UInt8)(h:S.zd5 l=true):(S.addrOf l).length+2<=l.length:=by
 unfold S.zd5 at h;rw[Bool.and_eq_true] at h;have h1:=S.zqd l _ _ h.2;unfold S.addrOf;rw[Ql,Qf];omega
theorem S.zr8 (b:UInt8)(l:List UInt8):S.cnt b l<=l.length:=S.zd3 b l
theorem S.zvp (l:List UInt8)(h:l≠[]):1<=S.same l/\S.same l<=l.length:=by
 cases l with
 | nil=>exact absurd rfl h
 | cons b r=>
  have h1:=S.zd3 b (b::r);refine⟨?_,?_⟩
  ·show 1<=S.cnt b (b::r);simp[S.cnt]
  ·exact h1
end Go.Proofs.YtlojgpkajkedeaaGreatDoor
