import Derived.Test.YtlojgpkajkedeaaGreatDoorNStr
import Derived.Test.YtlojgpkajkedeaaGreatDoorNE11
import Derived.Test.YtlojgpkajkedeaaGreatDoorNStr5
import Derived.Test.YtlojgpkajkedeaaGreatDoorNE15
import Derived.Test.YtlojgpkajkedeaaGreatDoorNE13
import Derived.Test.YtlojgpkajkedeaaGreatDoorNC2
import Derived.Deep.LoopGhost
import Derived.WalkMore
import Derived.RegionTactic
set_option maxHeartbeats 16000000
set_option maxRecDepth 100000
namespace Go.Proofs.YtlojgpkajkedeaaGreatDoor
open Go.RowKit Go.Proofs.Tryz
structure St where
 f:Nat
 k:Nat
 ps:List Pt
 os:List Opn
def zd1 (ct:ByteArray)(f k:Nat):List Pt:=if f<k then [zbk ((ct.data.toList.drop f).take (k-f))] else []
theorem zfc (ct:ByteArray)(f k m:Nat):(zcu ct f k m).map Mem.p=zd1 ct f k:=by
 unfold zcu zd1;split<;>rfl
def St.skip (ct:ByteArray)(s:St)(n:Nat):St:=⟨s.k+n,s.k+n,s.ps++zd1 ct s.f s.k,s.os⟩
def St.lay (ct:ByteArray)(s:St)(p:Pt)(n:Nat):St:=⟨s.k+n,s.k+n,(s.ps++zd1 ct s.f s.k)++[p],s.os⟩
def St.text (s:St)(n:Nat):St:=⟨s.f,s.k+n,s.ps,s.os⟩
def St.open (ct:ByteArray)(s:St)(t:List UInt8)(im:Bool):St:=⟨s.k+t.length,s.k+t.length,(s.ps++zd1 ct s.f s.k)++[zbk t],s.os++[⟨(s.ps++zd1 ct s.f s.k).length,im,false⟩]⟩
def St.close (ct:ByteArray)(s:St):Bool × St:=
 match s.os.getLast? with
 | none=>(false,s)
 | some o=>
  if o.dead=false/\S.zd5 (ct.data.toList.drop (s.k+1))=true then
   (true,⟨s.k+(3+(S.addrOf (ct.data.toList.drop (s.k+1))).length),s.k+(3+(S.addrOf (ct.data.toList.drop (s.k+1))).length),
    s.ps.take o.j++[zib (S.addrOf (ct.data.toList.drop (s.k+1))) o.image (s.ps.drop (o.j+1)++zd1 ct s.f s.k)],
    if o.image then s.os.dropLast else s.os.dropLast.map Opn.kill⟩)
  else (false,⟨s.f,s.k,s.ps,s.os.dropLast⟩)
def St.bracket (ct:ByteArray)(s:St):Bool × St:=
 if Lib.hasPrefix (ct.data.toList.drop s.k) [93]=true then s.close ct
 else if Lib.hasPrefix (ct.data.toList.drop s.k) [91]=true then (true,s.open ct [91] false)
 else if Lib.hasPrefix (ct.data.toList.drop s.k) [33,91]=true then (true,s.open ct [33,91] true)
 else (false,s)
def zh2:Pt:=.mk 9 [] [] [] 0 false false
def zgs:Pt:=.mk 10 [] [] [] 0 false false
def zje (ct:ByteArray)(s:St)(b:UInt8):St:=
 if b=92 then
  if Lib.hasPrefix (ct.data.toList.drop s.k) [92,10]=true then s.lay ct zgs 2
  else if S.escapes (ct.data.toList.drop s.k)=true then (s.skip ct 1).text 1
  else s.text 1
 else if b=96 then
  match S.ze9 (ct.data.toList.drop s.k) (S.same (ct.data.toList.drop s.k)) with
  | some v=>s.lay ct (zh3 ct s.k (S.same (ct.data.toList.drop s.k)) v) (v+S.same (ct.data.toList.drop s.k))
  | none=>s.text (S.same (ct.data.toList.drop s.k))
 else if b=32 then
  if Lib.hasPrefix (ct.data.toList.drop (s.k+S.same (ct.data.toList.drop s.k))) [10]=true then
   if 2<=S.same (ct.data.toList.drop s.k) then s.lay ct zgs (S.same (ct.data.toList.drop s.k)+1)
   else s.lay ct zh2 (S.same (ct.data.toList.drop s.k)+1)
  else s.text (S.same (ct.data.toList.drop s.k))
 else if b=10 then s.lay ct zh2 1
 else if b=60 then
  if S.zdb (ct.data.toList.drop s.k)=true then s.lay ct (zhu (S.zck (ct.data.toList.drop s.k))) ((S.zck (ct.data.toList.drop s.k)).length+2)
  else s.text 1
 else if b=42\/b=95 then s.lay ct (zku ct s.k (S.same (ct.data.toList.drop s.k))) (S.same (ct.data.toList.drop s.k))
 else if b=33\/b=91\/b=93 then
  if (s.bracket ct).1=true then (s.bracket ct).2 else (s.bracket ct).2.text 1
 else s.text 1
def step (ct:ByteArray)(s:St):St:=match ct.data.toList[s.k]? with
 | none=>s
 | some b=>zje ct s b
theorem zep (ct:ByteArray)(s:St)(h:s.k<ct.size):step ct s=zje ct s ct[s.k]:=by
 unfold step;rw[S.zad ct s.k h]
inductive Ends (ct:ByteArray):St->List Pt->Prop
 | done (s:St) (h:s.k=ct.size):Ends ct s (s.skip ct 0).ps
 | go (s:St) (r:List Pt) (h:s.k<ct.size) (hr:Ends ct (step ct s) r):Ends ct s r
def EnvC (C:Nat):Prop:=3<C/\0<C
theorem Env.z5d {C:Nat}{w w':World}(h:Env w)(hC:EnvC C)(hb:Below C w w'):Env w':=by
 obtain⟨⟨ev,h1,h2⟩,⟨m,h3⟩,h4,h5⟩:=h;have:=hb.size;exact⟨⟨ev,(hb.cell (p:=⟨3,0,none⟩) hC.1).trans h1,h2⟩,⟨m,(hb.cell (p:=⟨0,0,none⟩) hC.2).trans h3⟩,by omega,by omega⟩
structure At (C:Nat)(ct:ByteArray)(w0:World)(s:St)(w:World):Prop where
 cut:∃ms sa sc A,Cut C ct s.f s.k ms s.os sa sc A w/\ms.map Mem.p=s.ps
 below:Below C w0 w
 env:Env w
 envC:EnvC C
 few:s.os.length<=s.k
theorem At.step {C:Nat}{ct:ByteArray}{w0 w w':World}{s s':St}(h:At C ct w0 s w)(hb:Below C w w')(hc:∃ms sa sc A,Cut C ct s'.f s'.k ms s'.os sa sc A w'/\ms.map Mem.p=s'.ps)(hf:s'.os.length<=s'.k):At C ct w0 s' w':=
 ⟨hc,h.below.trans hb,h.env.z5d h.envC hb,h.envC,hf⟩
theorem At.kl {C:Nat}{ct:ByteArray}{w0 w:World}{s:St}(h:At C ct w0 s w):s.k<=ct.size:=by
 obtain⟨ms,sa,sc,A,hc,hp⟩:=h.cut;exact hc.kl
theorem At.small {C:Nat}{ct:ByteArray}{w0 w:World}{s:St}(h:At C ct w0 s w):ct.size<=1000000:=by
 obtain⟨ms,sa,sc,A,hc,hp⟩:=h.cut;exact hc.small
theorem At.cells {C:Nat}{ct:ByteArray}{w0 w:World}{s:St}(h:At C ct w0 s w):∃x3 x4 x5,w.heap[C]?=some (.cells [.string ct,.int .i64 (s.f:Nat),.int .i64 (s.k:Nat),x3,x4,x5].toArray 168 (0,0)):=by
 obtain⟨ms,sa,sc,A,hc,hp⟩:=h.cut;exact⟨_,_,_,hc.cells⟩
theorem At.same {C:Nat}{ct:ByteArray}{w0 w w':World}{s:St}(h:At C ct w0 s w)(hb:Below w.heap.size w w'):At C ct w0 s w':=by
 obtain⟨ms,sa,sc,A,hc,hp⟩:=h.cut;exact h.step (hb.mono (Nat.le_of_lt hc.lt)) ⟨ms,sa,sc,A,hc.below hb,hp⟩ h.few
theorem At.drew {C:Nat}{ct:ByteArray}{w0 w:World}{s:St}(h:At C ct w0 s w):At C ct w0 s w.drew:=h.same (Below.refl _ _).drew
theorem At.text {C:Nat}{ct:ByteArray}{w0 w:World}{s:St}(h:At C ct w0 s w)(n:Nat)(hn:s.k+n<=ct.size):At C ct w0 (s.text n) (w.setCell ⟨C,2,none⟩ (.int .i64 ((s.k+n:Nat):Int))):=by
 obtain⟨ms,sa,sc,A,hc,hp⟩:=h.cut;have hfr:Fr (C::blks ms) w (w.setCell ⟨C,2,none⟩ (.int .i64 ((s.k+n:Nat):Int))):=(Fr.refl _ w).setCell _ (.inl (by simp)) _;have hg:Cut C ct s.f (s.k+n) (ms++[]) s.os sa sc A (w.setCell ⟨C,2,none⟩ (.int .i64 ((s.k+n:Nat):Int))):=
  hc.grow (r:=[]) (by rw[Qbk];exact hc.ch.set2 (n:=s.k+n)) hfr (λx hx=>by simp[blks] at hx) (λe he=>by simp at he) (λx hx=>hx) (λx hx=>.inl hx)
   (by have hb:=hc.bytes;simp[txt] at hb ⊢;omega) (by have:=hc.fk;omega) hn (λx hx=>by simp at hx)
 rw[Qbk] at hg;exact h.step (hc.zf6 hfr) ⟨ms,sa,sc,A,hg,hp⟩ (by have:=h.few;simp only[St.text];omega)
theorem zxy {C:Nat}{ct:ByteArray}{w0 w:World}{s:St}(n:Nat)(h:At C ct w0 s w)(hn:s.k+n<=ct.size):Calls prog 152 #[.pointer (some ⟨C,0,none⟩),.int .i64 (n:Nat)] w λe w'=>e=.returned (.tuple #[])/\At C ct w0 (s.skip ct n) w':=by
 obtain⟨ms,sa,sc,A,hc,hp⟩:=h.cut;refine(zo7 C ct s.f s.k n ms s.os sa sc A w hc hn).mono ?_;rintro e w'⟨m,rfl,hm,hC,hf⟩;exact⟨rfl,h.step (hc.zf6 hf) ⟨_,_,_,_,hC,by rw[Qv,zfc,hp];rfl⟩ (by have:=h.few;simp only[St.skip];omega)⟩
theorem zxm {C:Nat}{ct:ByteArray}{w0 w:World}{s:St}(p:Pt)(n:Nat)(h:At C ct w0 s w)(hn:s.k+n<=ct.size)(ht:p.text=[])(hr:p.rs=0)(hk:p.kids=[]):Calls prog 162 #[.pointer (some ⟨C,0,none⟩),zhq p none none,.int .i64 (n:Nat)] w λe w'=>(∃v,e=.returned v)/\At C ct w0 (s.lay ct p n) w':=by
 obtain⟨ms,sa,sc,A,hc,hp⟩:=h.cut;refine(zm2 C ct s.f s.k n ms s.os sa sc A p none none w hc hn (by rw[ht];exact Qt _) (by omega) (by rw[hk];exact .nil)).mono ?_;rintro e w'⟨m1,m2,rfl,hm1,hm2,hC,hf⟩;exact⟨⟨_,rfl⟩,h.step (hc.zf6 hf) ⟨_,_,_,_,hC,by rw[Qv,Qv,zfc,hp];rfl⟩ (by have:=h.few;simp only[St.lay];omega)⟩
theorem zgd (ct:ByteArray)(k:Nat)(hk:k<ct.size):1<=S.same (ct.data.toList.drop k)/\k+S.same (ct.data.toList.drop k)<=ct.size:=by
 have h:=S.zvp (ct.data.toList.drop k) (λe=>by have:=congrArg List.length e;simp at this;omega);rw[Qf,S.lda] at h;omega
theorem zqt {C:Nat}{ct:ByteArray}{w0 w:World}{s:St}(h:At C ct w0 s w)(hk:s.k<ct.size)(hb:ct[s.k].toNat<128):Calls prog 157 #[.pointer (some ⟨C,0,none⟩)] w λe w'=>e=.returned (.tuple #[])/\At C ct w0 (s.lay ct (zku ct s.k (S.same (ct.data.toList.drop s.k))) (S.same (ct.data.toList.drop s.k))) w':=by
 obtain⟨ms,sa,sc,A,hc,hp⟩:=h.cut;refine(zw7 C ct s.f s.k _ ms s.os sa sc A w hc hk hb rfl (zgd ct s.k hk).2).mono ?_;rintro e w'⟨m1,m2,rfl,hm1,hm2,hC,hf⟩;exact⟨rfl,h.step (hc.zf6 hf) ⟨_,_,_,_,hC,by rw[Qv,Qv,zfc,hp];rfl⟩ (by have:=h.few;simp only[St.lay];omega)⟩
theorem zwi {C:Nat}{ct:ByteArray}{w0 w:World}{s:St}(h:At C ct w0 s w)(hk:s.k<ct.size):Calls prog 155 #[.pointer (some ⟨C,0,none⟩),.int .i64 (S.same (ct.data.toList.drop s.k):Nat)] w λe w'=>e=.returned (.bool (S.ze9 (ct.data.toList.drop s.k) (S.same (ct.data.toList.drop s.k))).isSome)/\At C ct w0 (match S.ze9 (ct.data.toList.drop s.k) (S.same (ct.data.toList.drop s.k)) with
  | some v=>s.lay ct (zh3 ct s.k (S.same (ct.data.toList.drop s.k)) v) (v+S.same (ct.data.toList.drop s.k))
  | none=>s) w':=by
 obtain⟨ms,sa,sc,A,hc,hp⟩:=h.cut;have hs:=zgd ct s.k hk;cases hv:S.ze9 (ct.data.toList.drop s.k) (S.same (ct.data.toList.drop s.k)) with
 | none=>
  refine(zpx C ct s.f s.k _ _ _ _ w hc.cells hc.small hk hs.1 hs.2 hv).mono ?_;rintro e w'⟨rfl,hb⟩;exact⟨rfl,h.same hb⟩
 | some v=>
  have hb:=S.zh1 _ _ _ (by rw[Qf,S.lda];omega) hv;rw[Qf,S.lda] at hb;refine(zq2 C ct s.f s.k _ v ms s.os sa sc A w hc hk hs.1 hs.2 hv hb.1 (by omega) h.env).mono ?_;rintro e w'⟨m1,m2,rfl,hm1,hm2,hC,hf⟩;exact⟨rfl,h.step (hc.zf6 hf) ⟨_,_,_,_,hC,by rw[Qv,Qv,zfc,hp];rfl⟩ (by have:=h.few;simp only[St.lay];omega)⟩
theorem zp2 {C:Nat}{ct:ByteArray}{w0 w:World}{s:St}(h:At C ct w0 s w)(hk:s.k<ct.size):Calls prog 156 #[.pointer (some ⟨C,0,none⟩)] w λe w'=>e=.returned (.bool (S.zdb (ct.data.toList.drop s.k)))/\At C ct w0 (if S.zdb (ct.data.toList.drop s.k)=true then s.lay ct (zhu (S.zck (ct.data.toList.drop s.k))) ((S.zck (ct.data.toList.drop s.k)).length+2) else s) w':=by
 obtain⟨ms,sa,sc,A,hc,hp⟩:=h.cut;cases hv:S.zdb (ct.data.toList.drop s.k) with
 | false=>
  refine(zm0 C ct s.f s.k _ _ _ w hc.cells hc.small hk hv).mono ?_;rintro e w'⟨rfl,hb⟩;exact⟨rfl,h.same hb⟩
 | true=>
  have hb:=S.zyu _ hv;rw[Qf,S.lda] at hb;refine(zmu C ct s.f s.k _ ms s.os sa sc A w hc hk hv rfl (by omega)).mono ?_;rintro e w'⟨m1,m2,m3,rfl,hm1,hm2,bg,hC,hf⟩;exact⟨rfl,h.step (hc.zf6 hf) ⟨_,_,_,_,hC,by rw[Qv,Qv,zfc,hp];rfl⟩ (by have:=h.few;simp[St.lay];omega)⟩
theorem zzb {C:Nat}{ct t:ByteArray}{w0 w:World}{s:St}(im:Bool)(h:At C ct w0 s w)(hk:s.k+t.size<=ct.size)(ht:1<=t.size)(him:(t.toList == [33,91])=im):Calls prog 204 #[.pointer (some ⟨C,0,none⟩),.string t] w λe w'=>e=.returned (.tuple #[])/\At C ct w0 (s.open ct t.data.toList im) w':=by
 obtain⟨ms,sa,sc,A,hc,hp⟩:=h.cut;refine(zzr C ct t im s.f s.k ms s.os sa sc A w hc hk him (by have:=h.few;have:=hc.kl;have:=hc.small;omega)).mono ?_;rintro e w'⟨m1,m2,sa',sc',rfl,hm1,hm2,hC,hf⟩;have hl:(ms++zcu ct s.f s.k m1).length=(s.ps++zd1 ct s.f s.k).length:=by rw[<-hp,<-zfc ct s.f s.k m1,<-Qv,List.length_map]
 rw[hl,<-S.lda t] at hC;exact⟨rfl,h.step hf ⟨_,_,_,_,hC,by rw[Qv,Qv,zfc,hp];rfl⟩ (by have:=h.few;simp only[St.open,Qa,Qd,Qi,S.lda];omega)⟩
theorem z03 {C:Nat}{ct:ByteArray}{w0 w:World}{s:St}(h:At C ct w0 s w)(hk:s.k<ct.size):Calls prog 203 #[.pointer (some ⟨C,0,none⟩)] w λe w'=>e=.returned (.bool (s.close ct).1)/\At C ct w0 (s.close ct).2 w':=by
 obtain⟨ms,sa,sc,A,hc,hp⟩:=h.cut;have bg:=h.few;have hsm:=hc.small;rcases List.eq_nil_or_concat s.os with ho|⟨os,o,ho⟩
 ·have he:s.close ct=(false,s):=by unfold St.close;rw[ho];rfl
  rw[he];rw[ho] at hc;refine(zv9 C ct s.f s.k ms sa sc A w hc).mono ?_;rintro e w'⟨rfl,hb⟩;exact⟨rfl,h.same hb⟩
 ·have ho:s.os=os++[o]:=by simpa using ho
  have hlast:s.os.getLast?=some o:=by rw[ho];simp
  have hdl:s.os.dropLast=os:=by rw[ho];simp
  have hol:os.length+1<=s.k:=by have:=bg;rw[ho] at this;simpa using this
  rw[ho] at hc;cases hd:o.dead with
  | true=>
   have he:s.close ct=(false,⟨s.f,s.k,s.ps,os⟩):=by unfold St.close;rw[hlast,hdl];simp[hd]
   rw[he];refine(zvb C ct s.f s.k ms os o sa sc A w hc (by omega) hd).mono ?_;rintro e w'⟨rfl,hC,hb⟩;exact⟨rfl,h.step hb ⟨_,_,_,_,hC,hp⟩ (by show os.length<=s.k;omega)⟩
  | false=>
   cases hv:S.zd5 (ct.data.toList.drop (s.k+1)) with
   | false=>
    have he:s.close ct=(false,⟨s.f,s.k,s.ps,os⟩):=(by unfold St.close;rw[hlast,hdl];simp[hv]);rw[he];refine(zvs C ct s.f s.k ms os o sa sc A w hc (by omega) hd hk hv).mono ?_;rintro e w'⟨rfl,hC,hb⟩;exact⟨rfl,h.step hb ⟨_,_,_,_,hC,hp⟩ (by show os.length<=s.k;omega)⟩
   | true=>
    obtain⟨n,hn⟩:=Qyy ((S.addrOf (ct.data.toList.drop (s.k+1))).length);have hr:=S.zvf _ hv;rw[Qf,S.lda,hn] at hr;have hj:o.j<ms.length:=hc.inl o (by simp);have hms:ms=ms.take o.j++ms[o.j]::ms.drop (o.j+1):=(by rw[<-Qm hj,List.take_append_drop]);have hlen:o.j=(ms.take o.j).length:=(by rw[Ql];omega);have he:s.close ct=(true,⟨s.k+(3+n),s.k+(3+n),s.ps.take o.j++[zib (S.addrOf (ct.data.toList.drop (s.k+1))) o.image (s.ps.drop (o.j+1)++zd1 ct s.f s.k)],if o.image then os else os.map Opn.kill⟩):=by
     unfold St.close;rw[hlast,hdl];simp[hv,hd,hn]
    rw[he];obtain⟨P,hP⟩:=Qzz (ms.take o.j);obtain⟨M,hM⟩:=Qzz (ms.drop (o.j+1));obtain⟨a,ha⟩:=Qzz (ms[o.j]);have dh:P.map Mem.p=s.ps.take o.j:=(by rw[hP,<-hp,List.map_take]);have dw:M.map Mem.p=s.ps.drop (o.j+1):=(by rw[hM,<-hp,List.map_drop]);rw[<-hP,<-hM,<-ha] at hms;rw[<-hP] at hlen;rw[hms] at hc;refine close_some C ct s.f s.k n P M a os o sa sc A w hc hlen (by omega) hd hk hv hn (by omega) _ ?_;rintro e w'⟨m1,A',kf,kl,rfl,hC,hb⟩;refine⟨rfl,h.step hb ⟨_,sa,sc,A',hC,?_⟩ ?_⟩
    ·rw[Qv,dh,Qv,dw,zfc];rfl
    ·show (if o.image then os else os.map Opn.kill).length<=s.k+(3+n)
     split
     ·omega
     ·rw[List.length_map];omega
theorem zjt (l p:List UInt8)(h:Lib.hasPrefix l p=true):p.length<=l.length:=by
 unfold Lib.hasPrefix at h;have:=(List.isPrefixOf_iff_prefix.1 h).length_le;exact this
theorem zk3 {C:Nat}{ct:ByteArray}{w0 w:World}{s:St}(h:At C ct w0 s w)(hk:s.k<ct.size):Calls prog 158 #[.pointer (some ⟨C,0,none⟩)] w λe w'=>e=.returned (.bool (s.bracket ct).1)/\At C ct w0 (s.bracket ct).2 w':=by
 obtain⟨x3,x4,x5,hcc⟩:=h.cells;unfold St.bracket;cases hp:Lib.hasPrefix (ct.data.toList.drop s.k) [93] with
 | true=>
  have hc:=z03 h.drew hk;refine(zr7 C ct s.f s.k x3 x4 x5 w hcc h.kl hp (λb w'=>b=(s.close ct).1/\At C ct w0 (s.close ct).2 w') (hc.mono (λe w' hh=>⟨_,hh.1,rfl,hh.2⟩))).mono ?_;rintro e w'⟨b,rfl,rfl,hA⟩;exact⟨rfl,hA⟩
 | false=>
  cases hq:Lib.hasPrefix (ct.data.toList.drop s.k) [91] with
  | true=>
   have hc:=zzb (t:=⟨#[91]⟩) false h.drew.drew (by show s.k+1<=ct.size;omega) (by decide) (by kernel_rfl);refine(zqg C ct s.f s.k x3 x4 x5 w hcc h.kl hp hq _ hc).mono ?_;rintro e w'⟨rfl,hA⟩;exact⟨rfl,hA⟩
  | false=>
   cases hr:Lib.hasPrefix (ct.data.toList.drop s.k) [33,91] with
   | true=>
    have hl:=zjt _ _ hr;rw[Qf,S.lda] at hl;have hl:2<=ct.size-s.k:=hl;have hc:=zzb (t:=⟨#[33,91]⟩) true h.drew.drew.drew (by show s.k+2<=ct.size;omega) (by decide) (by kernel_rfl);refine(zom C ct s.f s.k x3 x4 x5 w hcc h.kl hp hq hr _ hc).mono ?_;rintro e w'⟨rfl,hA⟩;exact⟨rfl,hA⟩
   | false=>
    refine(zql C ct s.f s.k x3 x4 x5 w hcc h.kl hp hq hr).mono ?_;rintro e w'⟨rfl,hb⟩;exact⟨rfl,h.same hb⟩
theorem z4b (ct:ByteArray)(s:St)(h:s.k<ct.size)(hb:ct[s.k]=92):step ct s=(if Lib.hasPrefix (ct.data.toList.drop s.k) [92,10]=true then s.lay ct zgs 2 else if S.escapes (ct.data.toList.drop s.k)=true then (s.skip ct 1).text 1 else s.text 1):=by
 rw[zep ct s h,hb];unfold zje;rw[if_pos rfl]
theorem z4p (ct:ByteArray)(s:St)(h:s.k<ct.size)(hb:ct[s.k]=96):step ct s=(match S.ze9 (ct.data.toList.drop s.k) (S.same (ct.data.toList.drop s.k)) with
  | some v=>s.lay ct (zh3 ct s.k (S.same (ct.data.toList.drop s.k)) v) (v+S.same (ct.data.toList.drop s.k))
  | none=>s.text (S.same (ct.data.toList.drop s.k))):=by
 rw[zep ct s h,hb];unfold zje;rw[if_neg (by decide),if_pos rfl]<;>rfl
theorem z4r (ct:ByteArray)(s:St)(h:s.k<ct.size)(hb:ct[s.k]=32):step ct s=(if Lib.hasPrefix (ct.data.toList.drop (s.k+S.same (ct.data.toList.drop s.k))) [10]=true then
   if 2<=S.same (ct.data.toList.drop s.k) then s.lay ct zgs (S.same (ct.data.toList.drop s.k)+1)
   else s.lay ct zh2 (S.same (ct.data.toList.drop s.k)+1)
  else s.text (S.same (ct.data.toList.drop s.k))):=by
 rw[zep ct s h,hb];unfold zje;rw[if_neg (by decide),if_neg (by decide),if_pos rfl]
theorem z1z (ct:ByteArray)(s:St)(h:s.k<ct.size)(hb:ct[s.k]=10):step ct s=s.lay ct zh2 1:=by
 rw[zep ct s h,hb];unfold zje;rw[if_neg (by decide),if_neg (by decide),if_neg (by decide),if_pos rfl]
theorem z2e (ct:ByteArray)(s:St)(h:s.k<ct.size)(hb:ct[s.k]=60):step ct s=(if S.zdb (ct.data.toList.drop s.k)=true then s.lay ct (zhu (S.zck (ct.data.toList.drop s.k))) ((S.zck (ct.data.toList.drop s.k)).length+2) else s.text 1):=by
 rw[zep ct s h,hb];unfold zje;rw[if_neg (by decide),if_neg (by decide),if_neg (by decide),if_neg (by decide),if_pos rfl]
theorem zv7 (ct:ByteArray)(s:St)(h:s.k<ct.size)(hb:ct[s.k]=42\/ct[s.k]=95):step ct s=s.lay ct (zku ct s.k (S.same (ct.data.toList.drop s.k))) (S.same (ct.data.toList.drop s.k)):=by
 rw[zep ct s h];unfold zje;rcases hb with hb|hb<;>rw[hb,if_neg (by decide),if_neg (by decide),if_neg (by decide),if_neg (by decide),if_neg (by decide),if_pos (by decide)]
theorem zsu (ct:ByteArray)(s:St)(h:s.k<ct.size)(hb:ct[s.k]=33\/ct[s.k]=91\/ct[s.k]=93):step ct s=(if (s.bracket ct).1=true then (s.bracket ct).2 else (s.bracket ct).2.text 1):=by
 rw[zep ct s h];unfold zje;rcases hb with hb|hb|hb<;>rw[hb,if_neg (by decide),if_neg (by decide),if_neg (by decide),if_neg (by decide),if_neg (by decide),if_neg (by decide),if_pos (by decide)]
theorem zxh (ct:ByteArray)(s:St)(h:s.k<ct.size)(h1:ct[s.k]≠92)(h2:ct[s.k]≠96)(h3:ct[s.k]≠32)(h4:ct[s.k]≠10)(h5:ct[s.k]≠60)(h6:ct[s.k]≠42)(h7:ct[s.k]≠95)(h8:ct[s.k]≠33)(h9:ct[s.k]≠91)(h10:ct[s.k]≠93):step ct s=s.text 1:=by
 rw[zep ct s h];unfold zje;rw[if_neg h1,if_neg h2,if_neg h3,if_neg h4,if_neg h5,if_neg (by rintro(h|h);exact h6 h;exact h7 h),if_neg (by rintro(h|h|h);exact h8 h;exact h9 h;exact h10 h)]
theorem zg4 {P:Program}{Q:Exit->Act->World->Prop}{a:Act}{w:World}{x:Code}(h:x.wp P Q a w):(Code.skip.seq x).wp P Q a w:=wp_seq (wp_skip h)
theorem zqh {P:Program}{Q:Exit->Act->World->Prop}{a:Act}{w:World}{l:Nat}{x:Code}(h:x.wp P Q a w):((Code.label l).seq x).wp P Q a w:=wp_seq (wp_label h)
theorem zlf {P:Program}{Q:Exit->Act->World->Prop}{a:Act}{w:World}{l:Nat}{x:Code}(h:Q (.goto l) a w):((Code.goto l).seq x).wp P Q a w:=wp_seq (wp_goto h)
theorem zif {P:Program}{Q:Exit->Act->World->Prop}{a:Act}{w:World}{x y:Code}(R:Act->World->Prop)(h:∀K:Act->World->Prop,(∀a w,R a w->K a w)->x.wp P (Exit.then K Q) a w)(hy:∀a w,R a w->y.wp P Q a w):(Code.seq x y).wp P Q a w:=wp_seq (h _ hy)
theorem zps {P:Program}{a:Act}{w:World}{Q:Exit->Act->World->Prop}{c x c0 c1 c2 c3 c4 c5:Code}(J:Nat->Nat->Act->World->Prop)(hJ:∀l n a w,J l n a w->l<6)
  (f0:c=x.seq ((Code.label 0).seq c0)) (fx:findLabel x 0=none) (f1:findLabel c 1=some c1) (f2:findLabel c 2=some c2) (f3:findLabel c 3=some c3) (f4:findLabel c 4=some c4) (f5:findLabel c 5=some c5)
  (start:∀QQ:Exit->Act->World->Prop,∀K:Act->World->Prop,Hid (∀n a w,J 0 n a w->K a w)->x.wp P (Exit.then K QQ) a w)
  (p0:∀n a w,J 0 n a w->∀K:Nat->Act->World->Prop,Hid (∀l n' a' w',n' < n->J l n' a' w'->K l a' w')->c0.wp P (jumps K Q) a w)
  (p1:∀n a w,J 1 n a w->∀K:Nat->Act->World->Prop,Hid (∀l n' a' w',n' < n->J l n' a' w'->K l a' w')->c1.wp P (jumps K Q) a w)
  (p2:∀n a w,J 2 n a w->∀K:Nat->Act->World->Prop,Hid (∀l n' a' w',n' < n->J l n' a' w'->K l a' w')->c2.wp P (jumps K Q) a w)
  (p3:∀n a w,J 3 n a w->∀K:Nat->Act->World->Prop,Hid (∀l n' a' w',n' < n->J l n' a' w'->K l a' w')->c3.wp P (jumps K Q) a w)
  (p4:∀n a w,J 4 n a w->∀K:Nat->Act->World->Prop,Hid (∀l n' a' w',n' < n->J l n' a' w'->K l a' w')->c4.wp P (jumps K Q) a w)
  (p5:∀n a w,J 5 n a w->∀K:Nat->Act->World->Prop,Hid (∀l n' a' w',n' < n->J l n' a' w'->K l a' w')->c5.wp P (jumps K Q) a w):(Code.scope c).wp P Q a w:=by
 refine zmi (λl=>match l with|0=>Code.skip.seq c0|1=>c1|2=>c2|3=>c3|4=>c4|_=>c5) (λl a w=>∃n,J l n a w) (λl a w=>leastOf (λn=>J l n a w)) ?_ ?_ ?_
 ·rintro l a w⟨n,h⟩;match l,hJ l n a w h with
  | 0,_=>rw[f0];simp[findLabel,fx]
  | 1,_=>exact f1
  | 2,_=>exact f2
  | 3,_=>exact f3
  | 4,_=>exact f4
  | 5,_=>exact f5
  | l+6,h6=>omega
 ·rw[f0];exact wp_seq (start _ _ (hid (λn a w h=>zqh (p0 n a w h _ (hid (λl n' a' w' _ h=>⟨n',h⟩))))))
 ·rintro l a w h0;have hs:=(leastOf_spec h0).1;have key:Hid (∀l' n' a' w',n' < leastOf (λn=>J l n a w)->J l' n' a' w'->(∃n,J l' n a' w')/\leastOf (λn=>J l' n a' w')<leastOf (λn=>J l n a w)):=
   hid (λl' n' a' w' hlt h=>⟨⟨n',h⟩,Nat.lt_of_le_of_lt ((leastOf_spec ⟨n',h⟩).2 n' h) hlt⟩)
  match l,hJ l _ a w hs with
  | 0,_=>exact zg4 (p0 _ a w hs _ key)
  | 1,_=>exact p1 _ a w hs _ key
  | 2,_=>exact p2 _ a w hs _ key
  | 3,_=>exact p3 _ a w hs _ key
  | 4,_=>exact p4 _ a w hs _ key
  | 5,_=>exact p5 _ a w hs _ key
  | l+6,h6=>omega
def cntP:Pt->Nat
 | .mk _ _ _ kids _ _ _=>1+cntL kids
 where
 cntL:List Pt->Nat
 | []=>0
 | p::r=>cntP p+cntL r
abbrev cntL:=cntP.cntL
theorem zy9 (p:Pt):cntP p=1+cntL p.kids:=by cases p;rfl
theorem zlk (p:Pt)(r:List Pt):cntL (p::r)=cntP p+cntL r:=rfl
theorem zmq (a b:List Pt):cntL (a++b)=cntL a+cntL b:=by
 induction a with
 | nil=>simp[cntP.cntL]
 | cons p r ih=>simp only[List.cons_append,zlk,ih];omega
theorem zjh (s:Pt)(l:List Pt)(l1:List Pt)(x:Pt)(m:List Pt)(h:zem s l=some (l1,x,m)):l=l1++x::m/\opens s x=true:=by
 induction l generalizing l1 x m with
 | nil=>simp[zem] at h
 | cons p r ih=>
  simp only[zem] at h;cases hr:zem s r with
  | none=>
   rw[hr] at h;dsimp only at h;split at h
   ·rename_i ho;simp at h;obtain⟨rfl,rfl,rfl⟩:=h;exact⟨rfl,ho⟩
   ·simp at h
  | some v=>
   obtain⟨a,b,c⟩:=v;rw[hr] at h;simp at h;obtain⟨rfl,rfl,rfl⟩:=h;obtain⟨h1,h2⟩:=ih a b c hr;exact⟨by rw[h1];rfl,h2⟩
theorem z0k (ct:ByteArray)(s:St)(r r':List Pt)(h:Ends ct s r)(h':Ends ct s r'):r=r':=by
 induction h generalizing r' with
 | done s h=>
  cases h' with
  | done _ _=>rfl
  | go _ _ h2 _=>omega
 | go s r h hr ih=>
  cases h' with
  | done _ h2=>omega
  | go _ _ _ h3=>exact ih r' h3
def zh7:St:=⟨0,0,[],[]⟩
noncomputable def zen (c:List UInt8):List Pt:=by
 classical exact if h:∃r,Ends (S.B c) zh7 r then zdi (Classical.choose h) else []
theorem zky (c:List UInt8)(r:List Pt)(h:Ends (S.B c) zh7 r):zen c=zdi r:=by
 have hx:∃r,Ends (S.B c) zh7 r:=⟨r,h⟩;unfold zen;rw[dif_pos hx,z0k _ _ _ _ (Classical.choose_spec hx) h]
structure zkk (C:Nat)(v2:Value)(a:Act):Prop where
 size:a.tmps.size=89
 zero:a.tmps[0]?=some (.pointer (some ⟨C,0,none⟩))
 two:a.tmps[2]?=some v2
 defers:a.defers=[]
theorem z4q (l:List Value)(h:l.length=89):∃u:Nat->Value,l=[u 0,u 1,u 2,u 3,u 4,u 5,u 6,u 7,u 8,u 9,u 10,u 11,u 12,u 13,u 14,u 15,u 16,u 17,u 18,u 19,u 20,u 21,u 22,u 23,u 24,u 25,u 26,u 27,u 28,u 29,u 30,u 31,u 32,u 33,u 34,u 35,u 36,u 37,u 38,u 39,u 40,u 41,u 42,u 43,u 44,u 45,u 46,u 47,u 48,u 49,u 50,u 51,u 52,u 53,u 54,u 55,u 56,u 57,u 58,u 59,u 60,u 61,u 62,u 63,u 64,u 65,u 66,u 67,u 68,u 69,u 70,u 71,u 72,u 73,u 74,u 75,u 76,u 77,u 78,u 79,u 80,u 81,u 82,u 83,u 84,u 85,u 86,u 87,u 88]/\∀i,i<89->l[i]?=some (u i):=by
 refine⟨λi=>l[i]?.getD undef,?_,?_⟩
 ·show l=(List.range 89).map (λi=>l[i]?.getD undef);apply List.ext_getElem?
  intro i;rw[List.getElem?_map];by_cases hi:i<89
  ·rw[List.getElem?_range hi,Qg (by omega),Option.map_some,Qg (by omega)];rfl
  ·rw[Qr (by omega),Qr (by simp;omega)];rfl
 ·intro i hi;show l[i]?=some (l[i]?.getD undef);rw[Qg (by omega)];rfl
theorem zkk.out {C:Nat}{v2:Value}{a:Act}(h:zkk C v2 a):∃u:Nat->Value,a = { tmps:=#[.pointer (some ⟨C,0,none⟩),u 1,v2,u 3,u 4,u 5,u 6,u 7,u 8,u 9,u 10,u 11,u 12,u 13,u 14,u 15,u 16,u 17,u 18,u 19,u 20,u 21,u 22,u 23,u 24,u 25,u 26,u 27,u 28,u 29,u 30,u 31,u 32,u 33,u 34,u 35,u 36,u 37,u 38,u 39,u 40,u 41,u 42,u 43,u 44,u 45,u 46,u 47,u 48,u 49,u 50,u 51,u 52,u 53,u 54,u 55,u 56,u 57,u 58,u 59,u 60,u 61,u 62,u 63,u 64,u 65,u 66,u 67,u 68,u 69,u 70,u 71,u 72,u 73,u 74,u 75,u 76,u 77,u 78,u 79,u 80,u 81,u 82,u 83,u 84,u 85,u 86,u 87,u 88],defers:=[] }:=by
 obtain⟨tm,df⟩:=a;obtain⟨l⟩:=tm;obtain⟨h1,h2,h3,h4⟩:=h;simp only at h1 h2 h3 h4;obtain⟨u,hl,hu⟩:=z4q l (by simpa using h1);refine⟨u,?_⟩;have e0:u 0=.pointer (some ⟨C,0,none⟩):=by
  have:=hu 0 (by omega);have h2':l[0]?=some (.pointer (some ⟨C,0,none⟩)):=by simpa using h2
  rw[h2'] at this;exact(Qy this).symm
 have e2:u 2=v2:=by
  have:=hu 2 (by omega);have h3':l[2]?=some v2:=by simpa using h3
  rw[h3'] at this;exact(Qy this).symm
 rw[hl,h4,e0,e2]
def cutJ (C:Nat)(ct:ByteArray)(w0:World)(s0:St)(l n:Nat)(a:Act)(w:World):Prop:=match l with
 | 0=>∃v2 s,zkk C v2 a/\At C ct w0 s w/\(∀r,Ends ct s r->Ends ct s0 r)/\n=8*(ct.size-s.k)+4
 | 1=>∃s,zkk C (.int .i64 1) a/\At C ct w0 s w/\(∀r,Ends ct s r->Ends ct s0 r)/\(∃h:s.k<ct.size,ct[s.k]=92)/\n=8*(ct.size-s.k)+3
 | 2=>∃s,zkk C (.int .i64 1) a/\At C ct w0 s w/\(∀r,Ends ct s r->Ends ct s0 r)/\(∃h:s.k<ct.size,ct[s.k]=32)/\n=8*(ct.size-s.k)+3
 | 3=>∃(s:St) (z:Nat),zkk C (.int .i64 (z:Nat)) a/\At C ct w0 s w/\(∀r,Ends ct (s.lay ct zh2 z) r->Ends ct s0 r)/\1<=z/\s.k+z<=ct.size/\n=8*(ct.size-s.k)+1
 | 4=>∃(s:St) (z:Nat),zkk C (.int .i64 (z:Nat)) a/\At C ct w0 s w/\(∀r,Ends ct (s.text z) r->Ends ct s0 r)/\1<=z/\s.k+z<=ct.size/\n=8*(ct.size-s.k)+1
 | 5=>∃(s:St) (z:Nat),zkk C (.int .i64 (z:Nat)) a/\At C ct w0 s w/\(∀r,Ends ct (s.lay ct zgs z) r->Ends ct s0 r)/\1<=z/\s.k+z<=ct.size/\n=8*(ct.size-s.k)+1
 | _=>False
theorem z3r (C:Nat)(ct:ByteArray)(w0:World)(s0:St)(l n:Nat)(a:Act)(w:World)(h:cutJ C ct w0 s0 l n a w):l<6:=by
 match l with
 | 0=>omega
 | 1=>omega
 | 2=>omega
 | 3=>omega
 | 4=>omega
 | 5=>omega
 | l+6=>exact h.elim
theorem zmp (ct:ByteArray)(s:St):((s.bracket ct).1=true->s.k<(s.bracket ct).2.k)/\((s.bracket ct).1=false->(s.bracket ct).2.k=s.k):=by
 unfold St.bracket;split
 ·unfold St.close;split
  ·exact⟨λh=>by simp at h,λ_=>rfl⟩
  ·split
   ·exact⟨λ_=>by show s.k<s.k+_;omega,λh=>by simp at h⟩
   ·exact⟨λh=>by simp at h,λ_=>rfl⟩
 ·split
  ·exact⟨λ_=>by show s.k<s.k+1;omega,λh=>by simp at h⟩
  ·split
   ·exact⟨λ_=>by show s.k<s.k+2;omega,λh=>by simp at h⟩
   ·exact⟨λh=>by simp at h,λ_=>rfl⟩
theorem z2j (C:Nat)(ct:ByteArray)(s0:St)(w:World)(h:At C ct w s0 w):Calls prog 106 #[.pointer (some ⟨C,0,none⟩)] w λe w'=>e=.returned (.tuple #[])/\∃s,At C ct w s w'/\Ends ct s0 s.ps:=by
 have hH:=hid h;clear h;go_enter func106,ntmps106;go_wp2_with fail
 refine zps (cutJ C ct w s0) (z3r C ct w s0) rfl rfl rfl rfl rfl rfl rfl ?start ?p0 ?p1 ?p2 ?p3 ?p4 ?p5
 case start=>
  intro QQ K hK;go_wp2;exact hK.out _ _ _ ⟨_,s0,⟨rfl,rfl,rfl,rfl⟩,hH.out,λr h=>h,rfl⟩
 case p0=>
  rintro n a wr⟨v2,s,hfr,hA,hE,rfl⟩ K hK;obtain⟨u,rfl⟩:=hfr.out;obtain⟨x3,x4,x5,hcc⟩:=hA.cells;have hkl:=hA.kl;have hsm:=hA.small;have dw:=hid hA;have q0:wr.cell? ⟨C,0,none⟩=some (.string ct):=za0 hcc 0 _ rfl;have q2:wr.cell? ⟨C,2,none⟩=some (.int .i64 (s.k:Nat)):=za0 hcc 2 _ rfl;by_cases hk:s.k<ct.size
  ·have hne:((s.k:Int) == (ct.size:Int))=false:=by rw[Qe];omega
   obtain⟨bv,hbv⟩:∃bv:Nat,ct[s.k].toNat=bv:=⟨_,rfl⟩;have hbyte:Hid (∀b:UInt8,bv=b.toNat->ct[s.k]=b):=hid (λb h=>Qk.1 (hbv.trans h));have hbne:Hid (∀b:UInt8,bv≠b.toNat->ct[s.k]≠b):=hid (λb h e=>h (by rw[<-hbv,e]));have hE1:Hid (∀r,Ends ct (step ct s) r->Ends ct s0 r):=hid (λr h=>hE r (.go s r hk h));have jd:=hid hE;have jh:=hid hcc;have hI0:(0:Int)<=(s.k:Int):=by omega
   have hI1:(s.k:Int)<(ct.size:Int):=by omega
   clear hcc hA hE hfr;go_wp2_with (fail);go_region
   go_wp2_with (fail);go_region
   by_cases h92:bv=92
   ·have hby:=hid (hbyte.out 92 h92);subst h92;go_wp2;go_step3
    exact hK.out 1 (8*(ct.size-s.k)+3) _ _ (by omega) ⟨s,⟨rfl,rfl,rfl,rfl⟩,dw.out.drew.drew,jd.out,⟨hk,hby.out⟩,rfl⟩
   have ng:((bv:Int) == 92)=false:=by rw[Qe];omega
   by_cases h96:bv=96
   ·have hby:=hid (hbyte.out 96 h96);subst h96;have hst:=hid (z4p ct s hk hby.out);have hR:=hid (zeh C ct s.f s.k x3 x4 x5 wr.drew.drew jh.out hkl);have hz:(ct.extract s.k ct.size).size=ct.size-s.k:=(by simp);have hSp:=hid (zwi dw.out.drew.drew.drew hk);have hcs:=hid (λwx=>zex (ct.extract s.k ct.size) wx (by rw[hz];simp[maxLen];omega) (by omega) (by rw[ByteArray.getElem_extract];simp[hby.out]));rw[zbi] at hcs;have hsa:=zgd ct s.k hk;obtain⟨m,hm⟩:=Qyy (S.same (ct.data.toList.drop s.k));rw[hm] at hst hSp hcs hsa;clear hm hz;obtain⟨kg,fq⟩:=hsa;cases hv:S.ze9 (ct.data.toList.drop s.k) m with
    | some v=>
     rw[hv] at hst hSp;have kr:=hid hv;clear hv;go_wp2_with (fail);refine hR.out.mono ?_;rintro e w'⟨rfl,rfl⟩;go_wp2_with (fail);refine(hcs.out _).mono ?_;rintro e w'⟨rfl,rfl⟩;go_wp2_with (fail);refine hSp.out.mono ?_;rintro e w'⟨rfl,hA'⟩;have bg:=hid hA';clear hA';go_wp2;go_step3
     exact hK.out 0 (8*(ct.size-(s.k+(v+m)))+4) _ _ (by omega) ⟨_,_,⟨rfl,rfl,rfl,rfl⟩,bg.out,λr h=>hE1.out r (by rw[hst.out];exact h),rfl⟩
    | none=>
     rw[hv] at hst hSp;clear hv;go_wp2_with (fail);refine hR.out.mono ?_;rintro e w'⟨rfl,rfl⟩;go_wp2_with (fail);refine(hcs.out _).mono ?_;rintro e w'⟨rfl,rfl⟩;go_wp2_with (fail);refine hSp.out.mono ?_;rintro e w'⟨rfl,hA'⟩;have bg:=hid hA';obtain⟨y3,y4,y5,dh⟩:=hA'.cells;have k2:w'.cell? ⟨C,2,none⟩=some (.int .i64 (s.k:Nat)):=za0 dh 2 _ rfl;have kf:=za7 dh;clear hA' dh;go_wp2;go_step3
     go_wp2;go_step3
     exact hK.out 0 (8*(ct.size-(s.k+m))+4) _ _ (by omega) ⟨_,_,⟨rfl,rfl,rfl,rfl⟩,bg.out.text m fq,λr h=>hE1.out r (by rw[hst.out];exact h),rfl⟩
   have lq:((bv:Int) == 96)=false:=by rw[Qe];omega
   by_cases h32:bv=32
   ·have hby:=hid (hbyte.out 32 h32);subst h32;go_wp2;go_step3
    exact hK.out 2 (8*(ct.size-s.k)+3) _ _ (by omega) ⟨s,⟨rfl,rfl,rfl,rfl⟩,dw.out.drew.drew,jd.out,⟨hk,hby.out⟩,rfl⟩
   have e32:((bv:Int) == 32)=false:=by rw[Qe];omega
   by_cases h10:bv=10
   ·have hby:=hid (hbyte.out 10 h10);subst h10;have hst:=hid (z1z ct s hk hby.out);go_wp2;go_step3
    exact hK.out 3 (8*(ct.size-s.k)+1) _ _ (by omega) ⟨s,1,⟨rfl,rfl,rfl,rfl⟩,dw.out.drew.drew,λr h=>hE1.out r (by rw[hst.out];exact h),by omega,by omega,rfl⟩
   have e10:((bv:Int) == 10)=false:=by rw[Qe];omega
   by_cases h60:bv=60
   ·have hby:=hid (hbyte.out 60 h60);subst h60;have hst:=hid (z2e ct s hk hby.out);have jl:=hid (zp2 dw.out.drew.drew hk);have fq:s.k+1<=ct.size:=hk;cases hv:S.zdb (ct.data.toList.drop s.k) with
    | true=>
     rw[hv,if_pos rfl] at hst jl;clear hv;go_wp2_with (fail);refine jl.out.mono ?_;rintro e w'⟨rfl,hA'⟩;have bg:=hid hA';clear hA';go_wp2;go_step3
     exact hK.out 0 (8*(ct.size-(s.k+((S.zck (ct.data.toList.drop s.k)).length+2)))+4) _ _ (by omega) ⟨_,_,⟨rfl,rfl,rfl,rfl⟩,bg.out,λr h=>hE1.out r (by rw[hst.out];exact h),rfl⟩
    | false=>
     rw[hv,if_neg (by simp)] at hst jl;clear hv;go_wp2_with (fail);refine jl.out.mono ?_;rintro e w'⟨rfl,hA'⟩;have bg:=hid hA';obtain⟨y3,y4,y5,dh⟩:=hA'.cells;have k2:w'.cell? ⟨C,2,none⟩=some (.int .i64 (s.k:Nat)):=za0 dh 2 _ rfl;have kf:=za7 dh;clear hA' dh;go_wp2;go_step3
     go_wp2;go_step3
     exact hK.out 0 (8*(ct.size-(s.k+1))+4) _ _ (by omega) ⟨_,_,⟨rfl,rfl,rfl,rfl⟩,bg.out.text 1 fq,λr h=>hE1.out r (by rw[hst.out];exact h),rfl⟩
   have e60:((bv:Int) == 60)=false:=by rw[Qe];omega
   by_cases h42:bv=42
   ·have hby:=hid (hbyte.out 42 h42);subst h42;have hst:=hid (zv7 ct s hk (.inl hby.out));have jw:=hid (zqt dw.out.drew.drew hk (by rw[hby.out];decide));have hsa:=zgd ct s.k hk;go_wp2_with (fail);refine jw.out.mono ?_;rintro e w'⟨rfl,hA'⟩;have bg:=hid hA';clear hA';go_wp2;go_step3
    exact hK.out 0 (8*(ct.size-(s.k+S.same (ct.data.toList.drop s.k)))+4) _ _ (by omega) ⟨_,_,⟨rfl,rfl,rfl,rfl⟩,bg.out,λr h=>hE1.out r (by rw[hst.out];exact h),rfl⟩
   have e42:((bv:Int) == 42)=false:=by rw[Qe];omega
   by_cases h95:bv=95
   ·have hby:=hid (hbyte.out 95 h95);subst h95;have hst:=hid (zv7 ct s hk (.inr hby.out));have jw:=hid (zqt dw.out.drew.drew hk (by rw[hby.out];decide));have hsa:=zgd ct s.k hk;go_wp2_with (fail);refine jw.out.mono ?_;rintro e w'⟨rfl,hA'⟩;have bg:=hid hA';clear hA';go_wp2;go_step3
    exact hK.out 0 (8*(ct.size-(s.k+S.same (ct.data.toList.drop s.k)))+4) _ _ (by omega) ⟨_,_,⟨rfl,rfl,rfl,rfl⟩,bg.out,λr h=>hE1.out r (by rw[hst.out];exact h),rfl⟩
   have mh:((bv:Int) == 95)=false:=by rw[Qe];omega
   by_cases h33:bv=33
   ·have hby:=hid (hbyte.out 33 h33);subst h33;have hst:=hid (zsu ct s hk (.inl hby.out));have dx:=hid (zk3 dw.out.drew.drew hk);have hbk:=zmp ct s;obtain⟨⟨xb,s1⟩,hx⟩:∃x,s.bracket ct=x:=⟨_,rfl⟩;rw[hx] at hst dx hbk;dsimp only at hst dx hbk;clear hx;cases xb with
    | true=>
     have hkk:=hbk.1 rfl;rw[if_pos rfl] at hst;go_wp2_with (fail);refine dx.out.mono ?_;rintro e w'⟨rfl,hA'⟩;have hkl':=hA'.kl;have bg:=hid hA';clear hA' hbk;go_wp2;go_step3
     exact hK.out 0 (8*(ct.size-s1.k)+4) _ _ (by omega) ⟨_,_,⟨rfl,rfl,rfl,rfl⟩,bg.out,λr h=>hE1.out r (by rw[hst.out];exact h),rfl⟩
    | false=>
     have hkk:=hbk.2 rfl;rw[if_neg (by simp)] at hst;go_wp2_with (fail);refine dx.out.mono ?_;rintro e w'⟨rfl,hA'⟩;have bg:=hid hA';obtain⟨y3,y4,y5,dh⟩:=hA'.cells;have k2:w'.cell? ⟨C,2,none⟩=some (.int .i64 (s1.k:Nat)):=za0 dh 2 _ rfl;have kf:=za7 dh;have fq:s1.k+1<=ct.size:=(by omega);have gq:=hid hkk;clear hA' dh hbk hkk;go_wp2;go_step3
     go_wp2;go_step3
     exact hK.out 0 (8*(ct.size-(s1.k+1))+4) _ _ (by have:=gq.out;omega) ⟨_,_,⟨rfl,rfl,rfl,rfl⟩,bg.out.text 1 fq,λr h=>hE1.out r (by rw[hst.out];exact h),rfl⟩
   have e33:((bv:Int) == 33)=false:=by rw[Qe];omega
   by_cases h91:bv=91
   ·have hby:=hid (hbyte.out 91 h91);subst h91;have hst:=hid (zsu ct s hk (.inr (.inl hby.out)));have dx:=hid (zk3 dw.out.drew.drew hk);have hbk:=zmp ct s;obtain⟨⟨xb,s1⟩,hx⟩:∃x,s.bracket ct=x:=⟨_,rfl⟩;rw[hx] at hst dx hbk;dsimp only at hst dx hbk;clear hx;cases xb with
    | true=>
     have hkk:=hbk.1 rfl;rw[if_pos rfl] at hst;go_wp2_with (fail);refine dx.out.mono ?_;rintro e w'⟨rfl,hA'⟩;have hkl':=hA'.kl;have bg:=hid hA';clear hA' hbk;go_wp2;go_step3
     exact hK.out 0 (8*(ct.size-s1.k)+4) _ _ (by omega) ⟨_,_,⟨rfl,rfl,rfl,rfl⟩,bg.out,λr h=>hE1.out r (by rw[hst.out];exact h),rfl⟩
    | false=>
     have hkk:=hbk.2 rfl;rw[if_neg (by simp)] at hst;go_wp2_with (fail);refine dx.out.mono ?_;rintro e w'⟨rfl,hA'⟩;have bg:=hid hA';obtain⟨y3,y4,y5,dh⟩:=hA'.cells;have k2:w'.cell? ⟨C,2,none⟩=some (.int .i64 (s1.k:Nat)):=za0 dh 2 _ rfl;have kf:=za7 dh;have fq:s1.k+1<=ct.size:=(by omega);have gq:=hid hkk;clear hA' dh hbk hkk;go_wp2;go_step3
     go_wp2;go_step3
     exact hK.out 0 (8*(ct.size-(s1.k+1))+4) _ _ (by have:=gq.out;omega) ⟨_,_,⟨rfl,rfl,rfl,rfl⟩,bg.out.text 1 fq,λr h=>hE1.out r (by rw[hst.out];exact h),rfl⟩
   have ny:((bv:Int) == 91)=false:=by rw[Qe];omega
   by_cases h93:bv=93
   ·have hby:=hid (hbyte.out 93 h93);subst h93;have hst:=hid (zsu ct s hk (.inr (.inr hby.out)));have dx:=hid (zk3 dw.out.drew.drew hk);have hbk:=zmp ct s;obtain⟨⟨xb,s1⟩,hx⟩:∃x,s.bracket ct=x:=⟨_,rfl⟩;rw[hx] at hst dx hbk;dsimp only at hst dx hbk;clear hx;cases xb with
    | true=>
     have hkk:=hbk.1 rfl;rw[if_pos rfl] at hst;go_wp2_with (fail);refine dx.out.mono ?_;rintro e w'⟨rfl,hA'⟩;have hkl':=hA'.kl;have bg:=hid hA';clear hA' hbk;go_wp2;go_step3
     exact hK.out 0 (8*(ct.size-s1.k)+4) _ _ (by omega) ⟨_,_,⟨rfl,rfl,rfl,rfl⟩,bg.out,λr h=>hE1.out r (by rw[hst.out];exact h),rfl⟩
    | false=>
     have hkk:=hbk.2 rfl;rw[if_neg (by simp)] at hst;go_wp2_with (fail);refine dx.out.mono ?_;rintro e w'⟨rfl,hA'⟩;have bg:=hid hA';obtain⟨y3,y4,y5,dh⟩:=hA'.cells;have k2:w'.cell? ⟨C,2,none⟩=some (.int .i64 (s1.k:Nat)):=za0 dh 2 _ rfl;have kf:=za7 dh;have fq:s1.k+1<=ct.size:=(by omega);have gq:=hid hkk;clear hA' dh hbk hkk;go_wp2;go_step3
     go_wp2;go_step3
     exact hK.out 0 (8*(ct.size-(s1.k+1))+4) _ _ (by have:=gq.out;omega) ⟨_,_,⟨rfl,rfl,rfl,rfl⟩,bg.out.text 1 fq,λr h=>hE1.out r (by rw[hst.out];exact h),rfl⟩
   have mq:((bv:Int) == 93)=false:=by rw[Qe];omega
   have hst:=hid (zxh ct s hk (hbne.out 92 h92) (hbne.out 96 h96) (hbne.out 32 h32) (hbne.out 10 h10) (hbne.out 60 h60) (hbne.out 42 h42) (hbne.out 95 h95) (hbne.out 33 h33) (hbne.out 91 h91) (hbne.out 93 h93));have fq:s.k+1<=ct.size:=hk;have hA2:=hid dw.out.drew.drew;have k2:wr.drew.drew.cell? ⟨C,2,none⟩=some (.int .i64 (s.k:Nat)):=q2;have kf:∀i,wr.drew.drew.frozen? ⟨C,i,none⟩=false:=za7 jh.out;go_wp2;go_step3
   go_wp2;go_step3
   exact hK.out 0 (8*(ct.size-(s.k+1))+4) _ _ (by omega) ⟨_,_,⟨rfl,rfl,rfl,rfl⟩,hA2.out.text 1 fq,λr h=>hE1.out r (by rw[hst.out];exact h),rfl⟩
  ·have hke:s.k=ct.size:=by omega
   have heq:((s.k:Int) == (ct.size:Int))=true:=by rw[beq_iff_eq];omega
   have hS:=hid (zxy 0 hA.drew (by omega));have jd:Hid (Ends ct s0 (s.skip ct 0).ps):=hid (hE _ (.done s hke));clear hcc hA hE hfr hke hk;go_wp2_with (fail);go_region
   go_wp2_with (fail);refine hS.out.mono ?_;rintro e w'⟨rfl,hA'⟩;have bg:=hid hA';clear hA';go_wp2;simp only[jumps];exact bodyPost_ret (results_none rfl _ _ _) rfl ⟨rfl,s.skip ct 0,bg.out,jd.out⟩
 case p1=>
  rintro n a wr⟨s,hfr,hA,hE,⟨hk,hb⟩,rfl⟩ K hK;obtain⟨u,rfl⟩:=hfr.out;obtain⟨x3,x4,x5,hcc⟩:=hA.cells;have hst:=hid (z4b ct s hk hb);have hE1:Hid (∀r,Ends ct (step ct s) r->Ends ct s0 r):=hid (λr h=>hE r (.go s r hk h));have jk:=hid (zdm C ct ⟨#[92,10]⟩ s.f s.k x3 x4 x5 wr hcc hA.kl);rw[show (⟨#[92,10]⟩:ByteArray).data.toList=[92,10] from rfl] at jk;have hR:=hid (zeh C ct s.f s.k x3 x4 x5 wr.drew hcc hA.kl);have hsm:=hA.small;have dw:=hid hA;have jm:=hid (λwx=>zru (ct.extract s.k ct.size) wx (by simp[maxLen];omega));rw[zbi] at jm;clear hcc hE hb hA hfr;generalize hp:Lib.hasPrefix (ct.data.toList.drop s.k) [92,10]=pb at jk;cases pb with
  | true=>
   have hkl:=zjt _ _ hp;rw[Qf,S.lda] at hkl;have hkl:s.k+2<=ct.size:=by have:2<=ct.size-s.k:=hkl;omega
   have jg:=hid hp;clear hp;go_wp2_with (fail);refine jk.out.mono ?_;rintro e w'⟨rfl,rfl⟩;go_wp2;go_step3
   exact hK.out 5 (8*(ct.size-s.k)+1) _ _ (by omega) ⟨s,2,⟨rfl,rfl,rfl,rfl⟩,dw.out.drew,λr h=>hE1.out r (by rw[hst.out,if_pos jg.out];exact h),by omega,hkl,rfl⟩
  | false=>
   generalize he:S.escapes (ct.data.toList.drop s.k)=eb at jm;have jg:=hid hp;have jq:=hid he;clear hp he;cases eb with
   | true=>
    have hS:=hid (zxy 1 dw.out.drew.drew hk);have hkl:s.k+2<=ct.size:=by
     have h1:=jq.out;unfold S.escapes at h1;by_cases h2:s.k+1<ct.size
     ·omega
     ·rw[Qr (by rw[Qf,S.lda];omega)] at h1;simp at h1
    go_wp2_with (fail);refine jk.out.mono ?_;rintro e w'⟨rfl,rfl⟩;go_wp2_with (fail);refine hR.out.mono ?_;rintro e w'⟨rfl,rfl⟩;go_wp2_with (fail);refine(jm.out _).mono ?_;rintro e w'⟨rfl,rfl⟩;go_wp2_with (fail);refine hS.out.mono ?_;rintro e w'⟨rfl,hA'⟩;have bg:=hid hA';clear hA';go_wp2;go_step3
    exact hK.out 4 (8*(ct.size-(s.k+1))+1) _ _ (by omega) ⟨s.skip ct 1,1,⟨rfl,rfl,rfl,rfl⟩,bg.out,λr h=>hE1.out r (by rw[hst.out,if_neg (by rw[jg.out];simp),if_pos jq.out];exact h),by omega,hkl,rfl⟩
   | false=>
    go_wp2_with (fail);refine jk.out.mono ?_;rintro e w'⟨rfl,rfl⟩;go_wp2_with (fail);refine hR.out.mono ?_;rintro e w'⟨rfl,rfl⟩;go_wp2_with (fail);refine(jm.out _).mono ?_;rintro e w'⟨rfl,rfl⟩;go_wp2;go_step3
    exact hK.out 4 (8*(ct.size-s.k)+1) _ _ (by omega) ⟨s,1,⟨rfl,rfl,rfl,rfl⟩,dw.out.drew.drew,λr h=>hE1.out r (by rw[hst.out,if_neg (by rw[jg.out];simp),if_neg (by rw[jq.out];simp)];exact h),by omega,by omega,rfl⟩
 case p2=>
  rintro n a wr⟨s,hfr,hA,hE,⟨hk,hb⟩,rfl⟩ K hK;obtain⟨u,rfl⟩:=hfr.out;obtain⟨x3,x4,x5,hcc⟩:=hA.cells;have hst:=hid (z4r ct s hk hb);have hE1:Hid (∀r,Ends ct (step ct s) r->Ends ct s0 r):=hid (λr h=>hE r (.go s r hk h));have hsm:=hA.small;have dw:=hid hA;have hR:=hid (zeh C ct s.f s.k x3 x4 x5 wr hcc hA.kl);have hR2:=hid (zeh C ct s.f s.k x3 x4 x5 wr.drew hcc hA.kl);have hz:(ct.extract s.k ct.size).size=ct.size-s.k:=by simp
  obtain⟨m,hm⟩:=Qyy (S.same (ct.data.toList.drop s.k));have hcs:Hid (∀wx,Calls prog 153 #[.string (ct.extract s.k ct.size)] wx λe w'=>e=.returned (.int .i64 (m:Nat))/\wx=w'):=hid (λwx=>by
   have:=zex (ct.extract s.k ct.size) wx (by rw[hz];simp[maxLen];omega) (by omega) (by rw[ByteArray.getElem_extract];simp[hb]);rw[zbi,hm] at this;exact this)
  have hsa:=zgd ct s.k hk;rw[hm] at hst hsa;have hP:=hid (λwx=>Tryz.strings_HasPrefix ((ct.extract s.k ct.size).extract m (ct.size-s.k)) ⟨#[10]⟩ wx);have jy:((ct.extract s.k ct.size).extract m (ct.size-s.k)).data.toList=ct.data.toList.drop (s.k+m):=by
   rw[<-hz,zbi,zbi,Qbb]
  rw[jy] at hP;have hI0:(0:Int)<=(m:Int):=by omega
  have hI1:(m:Int)<=((ct.extract s.k ct.size).size:Int):=by omega
  have hI2:(m:Int)<=((ct.size-s.k:Nat):Int):=by omega
  have lg:m<=ct.size-s.k:=by omega
  clear hcc hE hb hA hfr hm jy;go_wp2_with fail
  refine hR.out.mono ?_;rintro e w'⟨rfl,rfl⟩;go_wp2_with fail
  refine(hcs.out _).mono ?_;rintro e w'⟨rfl,rfl⟩;go_wp2_with fail
  refine hR2.out.mono ?_;rintro e w'⟨rfl,rfl⟩;generalize hp:Lib.hasPrefix (ct.data.toList.drop (s.k+m)) (⟨#[10]⟩:ByteArray).data.toList=pb at hP;have jg:Hid (Lib.hasPrefix (ct.data.toList.drop (s.k+m)) [10]=pb):=hid hp;clear hp;go_wp2_with fail
  refine(hP.out _).mono ?_;rintro e w'⟨rfl,rfl⟩;cases pb with
  | false=>
   go_wp2;go_step3
   exact hK.out 4 (8*(ct.size-s.k)+1) _ _ (by omega) ⟨s,m,⟨rfl,rfl,rfl,rfl⟩,dw.out.drew.drew,λr h=>hE1.out r (by rw[hst.out,if_neg (by rw[jg.out];simp)];exact h),hsa.1,hsa.2,rfl⟩
  | true=>
   have hkl:=zjt _ _ jg.out;rw[Qf,S.lda] at hkl;have hkl:s.k+(m+1)<=ct.size:=by have:1<=ct.size-(s.k+m):=hkl;omega
   by_cases h2:2<=m
   ·have hcmp:(2:Int)<(m:Int)+1:=(by omega);go_wp2;go_step3
    exact hK.out 5 (8*(ct.size-s.k)+1) _ _ (by omega) ⟨s,m+1,⟨rfl,rfl,rfl,rfl⟩,dw.out.drew.drew,λr h=>hE1.out r (by rw[hst.out,if_pos jg.out,if_pos h2];exact h),by omega,hkl,rfl⟩
   ·have hcmp:¬(2:Int)<(m:Int)+1:=(by omega);have hL:Hid (Calls prog 162 #[.pointer (some ⟨C,0,none⟩),.agg #[.int .i64 9,.string ⟨#[]⟩,.string ⟨#[]⟩,.pointer none,.pointer none,.int .i64 0,.bool false,.bool false],.int .i64 ((m:Int)+1)] wr.drew.drew λe w'=>(∃v,e=.returned v)/\At C ct w (s.lay ct zh2 (m+1)) w'):=hid (zxm zh2 (m+1) dw.out.drew.drew hkl rfl rfl rfl);go_wp2;go_step3
    go_wp2_with (fail);refine hL.out.mono ?_;rintro e w'⟨⟨v,rfl⟩,hA'⟩;have bg:=hid hA';clear hA';go_wp2;go_step3
    exact hK.out 0 (8*(ct.size-(s.k+(m+1)))+4) _ _ (by omega) ⟨_,s.lay ct zh2 (m+1),⟨rfl,rfl,rfl,rfl⟩,bg.out,λr h=>hE1.out r (by rw[hst.out,if_pos jg.out,if_neg h2];exact h),rfl⟩
 case p3=>
  rintro n a wr⟨s,z,hfr,hA,hE,hz,hkz,rfl⟩ K hK;obtain⟨u,rfl⟩:=hfr.out;have hL:Hid (Calls prog 162 #[.pointer (some ⟨C,0,none⟩),.agg #[.int .i64 9,.string ⟨#[]⟩,.string ⟨#[]⟩,.pointer none,.pointer none,.int .i64 0,.bool false,.bool false],.int .i64 (z:Nat)] wr λe w'=>(∃v,e=.returned v)/\At C ct w (s.lay ct zh2 z) w'):=hid (zxm zh2 z hA hkz rfl rfl rfl);refine zg4 (zif (λa' w'=>cutJ C ct w s0 0 (8*(ct.size-(s.k+z))+4) a' w') (λK2 hK2=>?_) (λa' w' h'=>zlf (hK.out 0 _ a' w' (by omega) h')));have gy:=hid hK2;have jd:=hid hE;clear hK2 hK hfr hA hE;generalize jumps K _=QQ;go_wp2_with fail
  refine hL.out.mono ?_;rintro e w'⟨⟨v,rfl⟩,hA'⟩;have bg:=hid hA';clear hA';go_wp2;exact gy.out _ _ ⟨_,s.lay ct zh2 z,⟨rfl,rfl,rfl,rfl⟩,bg.out,jd.out,rfl⟩
 case p4=>
  rintro n a wr⟨s,z,hfr,hA,hE,hz,hkz,rfl⟩ K hK;obtain⟨u,rfl⟩:=hfr.out;obtain⟨x3,x4,x5,hcc⟩:=hA.cells;have q2:wr.cell? ⟨C,2,none⟩=some (.int .i64 (s.k:Nat)):=za0 hcc 2 _ rfl;have qf:=za7 hcc;have dw:=hid hA;have jd:=hid hE;have hsm:=hA.small;clear hA hE hcc;refine zg4 (zif (λa' w'=>cutJ C ct w s0 0 (8*(ct.size-(s.k+z))+4) a' w') (λK2 hK2=>?_) (λa' w' h'=>zlf (hK.out 0 _ a' w' (by omega) h')));have gy:=hid hK2;clear hK2 hK hfr;generalize jumps K _=QQ;go_wp2;exact gy.out _ _ ⟨_,s.text z,⟨rfl,rfl,rfl,rfl⟩,dw.out.text z hkz,jd.out,rfl⟩
 case p5=>
  rintro n a wr⟨s,z,hfr,hA,hE,hz,hkz,rfl⟩ K hK;obtain⟨u,rfl⟩:=hfr.out;have hL:Hid (Calls prog 162 #[.pointer (some ⟨C,0,none⟩),.agg #[.int .i64 10,.string ⟨#[]⟩,.string ⟨#[]⟩,.pointer none,.pointer none,.int .i64 0,.bool false,.bool false],.int .i64 (z:Nat)] wr λe w'=>(∃v,e=.returned v)/\At C ct w (s.lay ct zgs z) w'):=hid (zxm zgs z hA hkz rfl rfl rfl);refine zg4 (zif (λa' w'=>cutJ C ct w s0 0 (8*(ct.size-(s.k+z))+4) a' w') (λK2 hK2=>?_) (λa' w' h'=>wp_goto (hK.out 0 _ a' w' (by omega) h')));have gy:=hid hK2;have jd:=hid hE;clear hK2 hK hfr hA hE;generalize jumps K _=QQ;go_wp2_with fail
  refine hL.out.mono ?_;rintro e w'⟨⟨v,rfl⟩,hA'⟩;have bg:=hid hA';clear hA';go_wp2;exact gy.out _ _ ⟨_,s.lay ct zgs z,⟨rfl,rfl,rfl,rfl⟩,bg.out,jd.out,rfl⟩
def Tag (w:World)(x:Nat):Prop:=∃cs:Array Value,w.heap[x]?=some (.cells cs 179 (0,0))
theorem KRep.tag {w:World}{A:Nat->Prop}{a:Option Addr}{ps:List Pt}(h:KRep w A a ps):KRep w (Tag w) a ps:=by
 induction h with
 | nil=>exact .nil
 | cons e ah be r ha hb hk hr ih1 ih2=>exact .cons e ah be r ⟨_,hb⟩ hb ih1 ih2
theorem Tag.ne {w:World}{x y T:Nat}{cs:Array Value}(h:Tag w x)(hy:w.heap[y]?=some (.cells cs T (0,0)))(hT:T≠179):x≠y:=by
 rintro rfl;obtain⟨cs',h⟩:=h;rw[h] at hy;simp only[Option.some.injEq,Obj.cells.injEq] at hy;exact hT hy.2.1.symm
theorem KRep.retag {w w':World}{a:Option Addr}{ps:List Pt}(h:KRep w (Tag w) a ps)(hw:∀x,Tag w x->w'.heap[x]?=w.heap[x]?):KRep w' (Tag w') a ps:=
 (h.move (λ_ hx=>hx) hw).tag
theorem z0g (C:Nat)(ct:ByteArray)(w:World)(hs:ct.size<=1000000)(hx:w.heap[C]?=some (.cells #[.string ct,.int .i64 0,.int .i64 0,.pointer none,.pointer none,.slice none 0 0] 168 (0,0)))(henv:Env w)(hE:EnvC C):At C ct w zh7 w:=by
 refine⟨⟨[],none,0,λ_=>False,?_,rfl⟩,Below.refl _ _,henv,hE,Qt _⟩;refine⟨⟨trivial,⟨hx,by show 3+1<6;omega⟩,List.nodup_nil,by simp[blks]⟩,λe he=>by simp at he,λ_ hx=>hx.elim,World.ownsRow_nil _ _ _ _,λx hx=>by simp[blks] at hx,λx hx=>by simp[blks] at hx,λx hx=>by simp[zh7] at hx,List.Pairwise.nil,Qc _,Qt _,hs,Qc _,λx hx=>by simp at hx⟩
theorem znw (ct:ByteArray)(w:World)(hs:ct.size<=1000000)(henv:Env w):Calls prog 80 #[.string ct] w λe w'=>
   ∃kf kl,e=.returned (.agg #[.pointer kf,.pointer kl])/\KRep w' (Tag w') kf (zen ct.data.toList)/\Below w.heap.size w w':=by
 obtain⟨w2,hw2⟩:=Qzz ((w.alloc (.cells #[.pointer none,.pointer none] 135)).alloc (.cells #[.string ct,.int .i64 0,.int .i64 0,.pointer none,.pointer none,.slice none 0 0] 168));have hs1:(w.alloc (.cells #[.pointer none,.pointer none] 135)).heap.size=w.heap.size+1:=by simp
 have hs2:w2.heap.size=w.heap.size+2:=by rw[hw2];simp
 have hC:w2.heap[w.heap.size+1]?=some (.cells #[.string ct,.int .i64 0,.int .i64 0,.pointer none,.pointer none,.slice none 0 0] 168 (0,0)):=by rw[hw2,<-hs1];exact za1 _ _
 have hR:w2.heap[w.heap.size]?=some (.cells #[.pointer none,.pointer none] 135 (0,0)):=by rw[hw2,Below.heap_alloc _ _ _ (by simp)];exact za1 _ _
 have hb2:Below w.heap.size w w2:=by rw[hw2];exact((Below.refl _ _).alloc (Qc _) _).alloc (by simp) _
 have hK:=hid (z2j (w.heap.size+1) ct zh7 w2 (z0g _ ct w2 hs hC (henv.below hb2) ⟨Nat.lt_succ_of_lt henv.2.2.1,Nat.lt_succ_of_lt henv.2.2.2⟩));have jd:=hid hR;have gq:=hid hb2;have fq:=hid hw2;clear hC hR hb2 hs1 hs2 hw2 henv;go_enter func80,ntmps80;go_wp2_with fail
 rw[<-fq.out];refine hK.out.mono ?_;rintro e w3⟨rfl,s,hA,hE⟩;obtain⟨ms,sa,sc,A,hcut,hmp⟩:=hA.cut;have hab:=hcut.above;have hSt:=hid (zk1 (w.heap.size+1) 3 168 _ ms A w3 hcut.ch hcut.kids (λx hx=>⟨(hcut.dead x hx).1,(hcut.dead x hx).2.1⟩) (by have:=hcut.bytes;have:=hcut.fk;have:=hcut.kl;have:=hcut.small;omega) hcut.runs);have bg:=hid hcut;have jh:=hid hA;have hE':Hid (zen ct.data.toList=zdi (ms.map Mem.p)):=hid (by
  rw[hmp];exact zky _ _ (by rw[S.zbp];exact hE))
 have gy:=hid hab;clear hA hE hcut hmp hab;go_wp2_with fail
 refine hSt.out.mono ?_;rintro e w4⟨l',A',rfl,hS⟩;have hb3:Below (w.heap.size+1) w2 w3:=jh.out.below;have hb4:Below (w.heap.size+1) w3 w4:=hS.fr.below (by have:=bg.out.lt;omega) (λx hx=>by
  rcases List.mem_cons.1 hx with rfl|hx
  ·exact Qc _
  ·exact Nat.le_of_lt (gy.out x hx))
 have dw:=(hb4.block w.heap.size (by omega)).trans ((hb3.block w.heap.size (by omega)).trans jd.out);have dx:=hS.ch.hdr.1;obtain⟨f1,hf1⟩:=Qyy (hd l' none);obtain⟨l1,hl1⟩:=Qyy (lst l' none);rw[hf1,hl1] at dx;have p3:w4.cell? ⟨w.heap.size+1,3,none⟩=some (.pointer f1):=za0 dx 3 _ rfl;have p4:w4.cell? ⟨w.heap.size+1,4,none⟩=some (.pointer l1):=za0 dx 4 _ rfl;have r0:w4.cell? ⟨w.heap.size,0,none⟩=some (.pointer none):=za0 dw 0 _ rfl;have r1:w4.cell? ⟨w.heap.size,1,none⟩=some (.pointer none):=za0 dw 1 _ rfl;have g:=za7 dw;have dh:=hid dw;have hbb:Hid (Below w.heap.size w w4):=hid (gq.out.trans ((hb3.mono (Nat.le_succ _)).trans (hb4.mono (Nat.le_succ _))));have hz3:Hid (w.heap.size+1<w3.heap.size):=hid (by have:=bg.out.lt;omega);have jg:Hid (KRep w4 (λx=>A' x\/x∈blks l') f1 (zen ct.data.toList)):=hid (by
  rw[hE'.out,<-hS.part,<-hf1];exact zi3 hS.ch.seg (λe he=>.inr (List.mem_map.2 ⟨e,he,rfl⟩)) (λe he=>(hS.kids e he).move (λx hx=>.inl hx) (λ_ _=>rfl)))
 have hfl:Hid (∀w5:World,(∀x,x≠w.heap.size->w5.heap[x]?=w4.heap[x]?)->KRep w5 (Tag w5) f1 (zen ct.data.toList)):=hid (λw5 h5=>
  jg.out.tag.retag (λx hx=>h5 x (hx.ne dh.out (by decide))))
 clear hb3 hb4 dw dx hS hf1 hl1;go_wp2;have z:=za3 (za3 (cs:=[.pointer none,.pointer none]) dh.out 0 (.pointer f1)) 1 (.pointer l1);have z0:=za0 z 0 _ rfl;have z1:=za0 z 1 _ rfl;refine bodyPost_ret (v:=.agg #[.pointer f1,.pointer l1]) (by simp[results,results80,go_sem,z0,z1]) rfl ⟨f1,l1,rfl,hfl.out _ (λx hx=>?_),?_⟩
 ·rw[Below.heap_setCell _ _ _ _ hx,Below.heap_setCell _ _ _ _ hx]
 ·exact Below.setCell (Below.setCell hbb.out (by simp) _) (by simp) _
namespace S
theorem zmy (l:List UInt8):bytes (lines l)<=l.length:=by
 unfold lines;split
 ·simp[bytes]
 ·have h1:∀l:List UInt8,bytes (nl l)<=l.length:=by
   intro l;induction l with
   | nil=>simp[nl,bytes]
   | cons c r ih=>
    unfold nl;split
    ·simp only[bytes,Qs,List.sum_cons,Qi,Qd] at *;omega
    ·split<;>simp_all [bytes]<;>omega
  obtain⟨t,ht⟩:=zhw l;have h2:=congrArg List.length ht;rw[Qa] at h2;have:=h1 (Lib.trimSuffix l [10]);omega
end S
namespace S
def tt (r:List (List UInt8)):Nat:=bytes r+r.length
theorem zwq:tt []=0:=rfl
theorem zcs (x:List UInt8)(r:List (List UInt8)):tt (x::r)=x.length+1+tt r:=by simp only[tt,bytes,Qs,List.sum_cons,Qd];omega
theorem zpu (a b:List (List UInt8)):tt (a++b)=tt a+tt b:=by
 induction a with
 | nil=>simp[zwq]
 | cons x r ih=>rw[List.cons_append,zcs,zcs,ih];omega
theorem zgf (r:List (List UInt8))(n:Nat):tt (r.take n)+tt (r.drop n)=tt r:=by rw[<-zpu,List.take_append_drop]
theorem zdw (r:List (List UInt8))(n:Nat):tt (r.take n)<=tt r:=by have:=zgf r n;omega
theorem zf8 (r:List (List UInt8))(m n:Nat)(h:m<=n):tt (r.take m)<=tt (r.take n):=by
 have:=zdw (r.take n) m;rwa [List.take_take,Nat.min_eq_left h] at this
theorem zts (r:List (List UInt8))(a b:Nat):tt (r.take (a+b))=tt (r.take a)+tt ((r.drop a).take b):=by
 rw[List.take_add,zpu]
theorem zuz (row:List (List UInt8)):tt (zae row)<=tt (row.take (zae row).length):=by
 induction row with
 | nil=>simp[zae]
 | cons x r ih=>
  simp only[zae];split
  ·rename_i h;have:=zg7 x h;rw[Qd,Qz,zcs,zcs];omega
  ·simp[zwq]
theorem zs5 (x:List UInt8)(r:List (List UInt8))(h:zat x=true):tt (zae (x::r))+1<=tt ((x::r).take (zae (x::r)).length):=by
 have h1:=zuz r;have h2:=zg7 x h;simp only[zae,if_pos h];rw[Qd,Qz,zcs,zcs];omega
theorem zu1 (m:Nat)(r:List (List UInt8)):tt (r.map (λl=>l.drop m))<=tt r:=by
 induction r with
 | nil=>simp
 | cons x r ih=>rw[Qs,zcs,zcs,Qf];omega
theorem zx4 (l:List UInt8)(r:List (List UInt8))(h:(item l).ok=true):tt (zah (item l) (l::r))+1<=tt ((l::r).take (zah (item l) (l::r)).length):=by
 obtain⟨h1,h2⟩:=ztd l h;unfold zah;split
 ·rw[List.length_singleton,Qz,List.take_zero,zcs,zcs,zwq];simp only[Qi];omega
 ·obtain⟨n,hn⟩:∃n,zax (item l).zaa (l::r)=n+1:=⟨zax (item l).zaa (l::r)-1,by have:=zde (item l).zaa (l::r);omega⟩;rw[hn,Qz,Qs,Qd,List.length_map,Qz,zcs,zcs,Qf];have h3:=zu1 (item l).zaa (r.take n);have h4:r.take (r.take n).length=r.take n:=by rw[Ql,<-List.take_take,Qbl]
  rw[h4];omega
theorem zrb (r:List (List UInt8)):(zaj r).length<=tt r:=by
 induction r with
 | nil=>simp[zaj]
 | cons x r ih=>
  cases r with
  | nil=>rw[zcs];simp only[zaj,Qf];omega
  | cons y r=>rw[zcs];simp only[zaj,Qa,Qf,Qd] at *;omega
theorem zgm (l:List UInt8):(zal l).length<=l.length:=by
 have h1:=zk9 l;have h2:(zb3 l).length<=(shallow l).length:=by
  unfold zb3;have:=zhm ((shallow l).drop (cnt 35 (shallow l))) 32;rw[Qf] at this;omega
 unfold zal;split
 ·have h3:=zcm (zb3 l) 35;have h4:=zcm (Lib.trimRightB (zb3 l) 35) 32;omega
 ·omega
theorem zus (row:List (List UInt8)):(za8 row).1.text.length<=tt (row.take (za8 row).2)/\(za8 row).1.kids=[]:=by
 unfold za8;dsimp only;have h1:=zcm (zaj (row.take (zcb row.tail+1))) 32;have h2:=zrb (row.take (zcb row.tail+1));split
 ·exact⟨by show (Lib.trimRightB _ _).length<=tt (row.take (zcb row.tail+1));omega,rfl⟩
 ·split
  ·have h3:=zf8 row (zcb row.tail+1) (zcb row.tail+1+1) (by omega);exact⟨by show (Lib.trimRightB _ _).length<=tt (row.take (zcb row.tail+1+1));omega,rfl⟩
  ·exact⟨by show (Lib.trimRightB _ _).length<=tt (row.take (zcb row.tail+1));omega,rfl⟩
theorem ztg (x:List UInt8)(r:List (List UInt8))(n:Nat)(h:1<=n):x.length+1<=tt ((x::r).take n):=by
 obtain⟨m,rfl⟩:∃m,n=m+1:=⟨n-1,by omega⟩;rw[Qz,zcs];omega
end S
theorem S.zyi (l:List UInt8):(S.lines l).length<=l.length+1:=by
 unfold S.lines;split
 ·simp
 ·rw[S.zlt];obtain⟨t,ht⟩:=S.zhw l;have h2:=congrArg List.length ht;rw[Qa] at h2;have h3:(Lib.trimSuffix l [10]).count 10<=(Lib.trimSuffix l [10]).length:=List.count_le_length;omega
theorem S.zhe (l:List UInt8):S.tt (S.lines l)<=2*l.length+1:=by
 have h1:=S.zyi l;have h2:=S.zmy l;unfold S.tt;omega
end Go.Proofs.YtlojgpkajkedeaaGreatDoor
