import Derived.Test.YtlojgpkajkedeaaGreatDoorMStr
import Derived.Test.YtlojgpkajkedeaaGreatDoorMStr5
import Derived.Test.YtlojgpkajkedeaaGreatDoorMC7
import Derived.Test.YtlojgpkajkedeaaGreatDoorME11
import Derived.Test.YtlojgpkajkedeaaGreatDoorME15
import Derived.Test.YtlojgpkajkedeaaGreatDoorME13
import Derived.Deep.LoopGhost
import Derived.WalkMore
import Derived.RegionTactic
namespace Go.Proofs.YtlojgpkajkedeaaGreatDoor
open Go.RowKit
structure St where
 f:Nat
 k:Nat
 ps:List Pt
 os:List Opn
def zcw (ct:ByteArray) (f k:Nat):List Pt:=if f<k then [zbj ((ct.data.toList.drop f).take (k-f))] else []
theorem zf9 (ct:ByteArray) (f k m:Nat):(zcp ct f k m).map Mem.p=zcw ct f k:=by
 unfold zcp zcw;split <;> rfl
def St.skip (ct:ByteArray) (s:St) (n:Nat):St:=⟨s.k+n,s.k+n,s.ps++zcw ct s.f s.k,s.os⟩
def St.lay (ct:ByteArray) (s:St) (p:Pt) (n:Nat):St:=⟨s.k+n,s.k+n,(s.ps++zcw ct s.f s.k)++[p],s.os⟩
def St.text (s:St) (n:Nat):St:=⟨s.f,s.k+n,s.ps,s.os⟩
def St.open (ct:ByteArray) (s:St) (t:List UInt8) (im:Bool):St:=⟨s.k+t.length,s.k+t.length,(s.ps++zcw ct s.f s.k)++[zbj t],s.os++[⟨(s.ps++zcw ct s.f s.k).length,im,false⟩]⟩
def St.close (ct:ByteArray) (s:St):Bool × St:=
 match s.os.getLast? with
 | none=>(false,s)
 | some o=>
  if o.dead=false∧S.zd1 (ct.data.toList.drop (s.k+1))=true then
   (true,⟨s.k+(3+(S.addrOf (ct.data.toList.drop (s.k+1))).length),s.k+(3+(S.addrOf (ct.data.toList.drop (s.k+1))).length),
    s.ps.take o.j++[zhn (S.addrOf (ct.data.toList.drop (s.k+1))) o.image (s.ps.drop (o.j+1)++zcw ct s.f s.k)],
    if o.image then s.os.dropLast else s.os.dropLast.map Opn.kill⟩)
  else (false,⟨s.f,s.k,s.ps,s.os.dropLast⟩)
def St.bracket (ct:ByteArray) (s:St):Bool × St:=
 if Lib.hasPrefix (ct.data.toList.drop s.k) [93]=true then s.close ct
 else if Lib.hasPrefix (ct.data.toList.drop s.k) [91]=true then (true,s.open ct [91] false)
 else if Lib.hasPrefix (ct.data.toList.drop s.k) [33,91]=true then (true,s.open ct [33,91] true)
 else (false,s)
def zgp:Pt:=.mk 9 [] [] [] 0 false false
def zh1:Pt:=.mk 10 [] [] [] 0 false false
def zj3 (ct:ByteArray) (s:St) (b:UInt8):St:=
 if b=92 then
  if Lib.hasPrefix (ct.data.toList.drop s.k) [92,10]=true then s.lay ct zh1 2
  else if S.escapes (ct.data.toList.drop s.k)=true then (s.skip ct 1).text 1
  else s.text 1
 else if b=96 then
  match S.ze6 (ct.data.toList.drop s.k) (S.same (ct.data.toList.drop s.k)) with
  | some v=>s.lay ct (zgc ct s.k (S.same (ct.data.toList.drop s.k)) v) (v+S.same (ct.data.toList.drop s.k))
  | none=>s.text (S.same (ct.data.toList.drop s.k))
 else if b=32 then
  if Lib.hasPrefix (ct.data.toList.drop (s.k+S.same (ct.data.toList.drop s.k))) [10]=true then
   if 2≤S.same (ct.data.toList.drop s.k) then s.lay ct zh1 (S.same (ct.data.toList.drop s.k)+1)
   else s.lay ct zgp (S.same (ct.data.toList.drop s.k)+1)
  else s.text (S.same (ct.data.toList.drop s.k))
 else if b=10 then s.lay ct zgp 1
 else if b=60 then
  if S.zd9 (ct.data.toList.drop s.k)=true then s.lay ct (zj0 (S.zcf (ct.data.toList.drop s.k))) ((S.zcf (ct.data.toList.drop s.k)).length+2)
  else s.text 1
 else if b=42∨b=95 then s.lay ct (zk7 ct s.k (S.same (ct.data.toList.drop s.k))) (S.same (ct.data.toList.drop s.k))
 else if b=33∨b=91∨b=93 then
  if (s.bracket ct).1=true then (s.bracket ct).2 else (s.bracket ct).2.text 1
 else s.text 1
def step (ct:ByteArray) (s:St):St:=match ct.data.toList[s.k]? with
 | none=>s
 | some b=>zj3 ct s b
theorem zf4 (ct:ByteArray) (s:St) (h:s.k<ct.size):step ct s=zj3 ct s ct[s.k]:=by
 unfold step;rw[S.zaf ct s.k h]
inductive Ends (ct:ByteArray):St→List Pt→Prop
 | done (s:St) (h:s.k=ct.size):Ends ct s (s.skip ct 0).ps
 | go (s:St) (r:List Pt) (h:s.k<ct.size) (hr:Ends ct (step ct s) r):Ends ct s r
def EnvC (C:Nat):Prop:=3<C∧0<C
theorem Env.z1b {C:Nat} {w w':World} (h:Env w) (hC:EnvC C) (hb:Below C w w'):Env w':=by
 obtain ⟨⟨ev,h1,h2⟩,⟨m,h3⟩,h4,h5⟩:=h
 have:=hb.size
 exact ⟨⟨ev,(hb.cell (p:=⟨3,0,none⟩) hC.1).trans h1,h2⟩,⟨m,(hb.cell (p:=⟨0,0,none⟩) hC.2).trans h3⟩,by omega,by omega⟩
structure At (C:Nat) (ct:ByteArray) (w0:World) (s:St) (w:World):Prop where
 cut:∃ ms sa sc A,Cut C ct s.f s.k ms s.os sa sc A w∧ms.map Mem.p=s.ps
 below:Below C w0 w
 env:Env w
 envC:EnvC C
 few:s.os.length≤s.k
theorem At.step {C:Nat} {ct:ByteArray} {w0 w w':World} {s s':St} (h:At C ct w0 s w) (hb:Below C w w') (hc:∃ ms sa sc A,Cut C ct s'.f s'.k ms s'.os sa sc A w'∧ms.map Mem.p=s'.ps) (hf:s'.os.length≤s'.k):At C ct w0 s' w':=
 ⟨hc,h.below.trans hb,h.env.z1b h.envC hb,h.envC,hf⟩
theorem At.kl {C:Nat} {ct:ByteArray} {w0 w:World} {s:St} (h:At C ct w0 s w):s.k≤ct.size:=by
 obtain ⟨ms,sa,sc,A,hc,hp⟩:=h.cut;exact hc.kl
theorem At.small {C:Nat} {ct:ByteArray} {w0 w:World} {s:St} (h:At C ct w0 s w):ct.size≤1000000:=by
 obtain ⟨ms,sa,sc,A,hc,hp⟩:=h.cut;exact hc.small
theorem At.cells {C:Nat} {ct:ByteArray} {w0 w:World} {s:St} (h:At C ct w0 s w):∃ x3 x4 x5,w.heap[C]?=some (.cells [.string ct,.int .i64 (s.f:Nat),.int .i64 (s.k:Nat),x3,x4,x5].toArray 168 (0,0)):=by
 obtain ⟨ms,sa,sc,A,hc,hp⟩:=h.cut;exact ⟨_,_,_,hc.cells⟩
theorem At.same {C:Nat} {ct:ByteArray} {w0 w w':World} {s:St} (h:At C ct w0 s w) (hb:Below w.heap.size w w'):At C ct w0 s w':=by
 obtain ⟨ms,sa,sc,A,hc,hp⟩:=h.cut
 exact h.step (hb.mono (Nat.le_of_lt hc.lt)) ⟨ms,sa,sc,A,hc.below hb,hp⟩ h.few
theorem At.drew {C:Nat} {ct:ByteArray} {w0 w:World} {s:St} (h:At C ct w0 s w):At C ct w0 s w.drew:=h.same (Below.refl _ _).drew
theorem At.text {C:Nat} {ct:ByteArray} {w0 w:World} {s:St} (h:At C ct w0 s w) (n:Nat) (hn:s.k+n≤ct.size):At C ct w0 (s.text n) (w.setCell ⟨C,2,none⟩ (.int .i64 ((s.k+n:Nat):Int))):=by
 obtain ⟨ms,sa,sc,A,hc,hp⟩:=h.cut
 have hfr:Fr (C::blks ms) w (w.setCell ⟨C,2,none⟩ (.int .i64 ((s.k+n:Nat):Int))):=(Fr.refl _ w).setCell _ (.inl (by simp)) _
 have hg:Cut C ct s.f (s.k+n) (ms++[]) s.os sa sc A (w.setCell ⟨C,2,none⟩ (.int .i64 ((s.k+n:Nat):Int))):=
  hc.grow (r:=[]) (by rw[List.append_nil];exact hc.ch.set2 (n:=s.k+n)) hfr (fun x hx=>by simp[blks] at hx) (fun e he=>by simp at he) (fun x hx=>hx) (fun x hx=>.inl hx)
   (by have hb:=hc.bytes;simp[txt] at hb ⊢;omega) (by have:=hc.fk;omega) hn (fun x hx=>by simp at hx)
 rw[List.append_nil] at hg
 exact h.step (hc.zez hfr) ⟨ms,sa,sc,A,hg,hp⟩ (by have:=h.few;simp only[St.text];omega)
theorem zvl {C:Nat} {ct:ByteArray} {w0 w:World} {s:St} (n:Nat) (h:At C ct w0 s w) (hn:s.k+n≤ct.size) :
  Calls Tryz.prog 152 #[.pointer (some ⟨C,0,none⟩),.int .i64 (n:Nat)] w fun e w'=>e = .returned (.tuple #[])∧At C ct w0 (s.skip ct n) w':=by
 obtain ⟨ms,sa,sc,A,hc,hp⟩:=h.cut
 refine (zo5 C ct s.f s.k n ms s.os sa sc A w hc hn).mono ?_
 rintro e w' ⟨m,rfl,hm,hC,hf⟩
 exact ⟨rfl,h.step (hc.zez hf) ⟨_,_,_,_,hC,by rw[List.map_append,zf9,hp];rfl⟩ (by have:=h.few;simp only[St.skip];omega)⟩
theorem zur {C:Nat} {ct:ByteArray} {w0 w:World} {s:St} (p:Pt) (n:Nat) (h:At C ct w0 s w) (hn:s.k+n≤ct.size) (ht:p.text=[]) (hr:p.rs=0) (hk:p.kids=[]) :
  Calls Tryz.prog 162 #[.pointer (some ⟨C,0,none⟩),zhc p none none,.int .i64 (n:Nat)] w fun e w'=>(∃ v,e = .returned v)∧At C ct w0 (s.lay ct p n) w':=by
 obtain ⟨ms,sa,sc,A,hc,hp⟩:=h.cut
 refine (zlk C ct s.f s.k n ms s.os sa sc A p none none w hc hn (by rw[ht];exact Nat.zero_le _) (by omega) (by rw[hk];exact .nil)).mono ?_
 rintro e w' ⟨m1,m2,rfl,hm1,hm2,hC,hf⟩
 exact ⟨⟨_,rfl⟩,h.step (hc.zez hf) ⟨_,_,_,_,hC,by rw[List.map_append,List.map_append,zf9,hp];rfl⟩ (by have:=h.few;simp only[St.lay];omega)⟩
theorem zfy (ct:ByteArray) (k:Nat) (hk:k<ct.size):1≤S.same (ct.data.toList.drop k)∧k+S.same (ct.data.toList.drop k)≤ct.size:=by
 have h:=S.zta (ct.data.toList.drop k) (fun e=>by have:=congrArg List.length e;simp at this;omega)
 rw[List.length_drop,S.length_data] at h
 omega
theorem zpx {C:Nat} {ct:ByteArray} {w0 w:World} {s:St} (h:At C ct w0 s w) (hk:s.k<ct.size) (hb:ct[s.k].toNat<128) :
  Calls Tryz.prog 157 #[.pointer (some ⟨C,0,none⟩)] w fun e w'=>e = .returned (.tuple #[])∧At C ct w0 (s.lay ct (zk7 ct s.k (S.same (ct.data.toList.drop s.k))) (S.same (ct.data.toList.drop s.k))) w':=by
 obtain ⟨ms,sa,sc,A,hc,hp⟩:=h.cut
 refine (zue C ct s.f s.k _ ms s.os sa sc A w hc hk hb rfl (zfy ct s.k hk).2).mono ?_
 rintro e w' ⟨m1,m2,rfl,hm1,hm2,hC,hf⟩
 exact ⟨rfl,h.step (hc.zez hf) ⟨_,_,_,_,hC,by rw[List.map_append,List.map_append,zf9,hp];rfl⟩ (by have:=h.few;simp only[St.lay];omega)⟩
theorem ztp {C:Nat} {ct:ByteArray} {w0 w:World} {s:St} (h:At C ct w0 s w) (hk:s.k<ct.size) :
  Calls Tryz.prog 155 #[.pointer (some ⟨C,0,none⟩),.int .i64 (S.same (ct.data.toList.drop s.k):Nat)] w fun e w'=>e = .returned (.bool (S.ze6 (ct.data.toList.drop s.k) (S.same (ct.data.toList.drop s.k))).isSome)∧At C ct w0 (match S.ze6 (ct.data.toList.drop s.k) (S.same (ct.data.toList.drop s.k)) with
  | some v=>s.lay ct (zgc ct s.k (S.same (ct.data.toList.drop s.k)) v) (v+S.same (ct.data.toList.drop s.k))
  | none=>s) w':=by
 obtain ⟨ms,sa,sc,A,hc,hp⟩:=h.cut
 have hs:=zfy ct s.k hk
 cases hv:S.ze6 (ct.data.toList.drop s.k) (S.same (ct.data.toList.drop s.k)) with
 | none=>
  refine (zpg C ct s.f s.k _ _ _ _ w hc.cells hc.small hk hs.1 hs.2 hv).mono ?_
  rintro e w' ⟨rfl,hb⟩
  exact ⟨rfl,h.same hb⟩
 | some v=>
  have hb:=S.zgv _ _ _ (by rw[List.length_drop,S.length_data];omega) hv
  rw[List.length_drop,S.length_data] at hb
  refine (zq0 C ct s.f s.k _ v ms s.os sa sc A w hc hk hs.1 hs.2 hv hb.1 (by omega) h.env).mono ?_
  rintro e w' ⟨m1,m2,rfl,hm1,hm2,hC,hf⟩
  exact ⟨rfl,h.step (hc.zez hf) ⟨_,_,_,_,hC,by rw[List.map_append,List.map_append,zf9,hp];rfl⟩ (by have:=h.few;simp only[St.lay];omega)⟩
theorem znv {C:Nat} {ct:ByteArray} {w0 w:World} {s:St} (h:At C ct w0 s w) (hk:s.k<ct.size) :
  Calls Tryz.prog 156 #[.pointer (some ⟨C,0,none⟩)] w fun e w'=>e = .returned (.bool (S.zd9 (ct.data.toList.drop s.k)))∧At C ct w0 (if S.zd9 (ct.data.toList.drop s.k)=true then s.lay ct (zj0 (S.zcf (ct.data.toList.drop s.k))) ((S.zcf (ct.data.toList.drop s.k)).length+2) else s) w':=by
 obtain ⟨ms,sa,sc,A,hc,hp⟩:=h.cut
 cases hv:S.zd9 (ct.data.toList.drop s.k) with
 | false=>
  refine (zmb C ct s.f s.k _ _ _ w hc.cells hc.small hk hv).mono ?_
  rintro e w' ⟨rfl,hb⟩
  exact ⟨rfl,h.same hb⟩
 | true=>
  have hb:=S.zvy _ hv
  rw[List.length_drop,S.length_data] at hb
  refine (zl5 C ct s.f s.k _ ms s.os sa sc A w hc hk hv rfl (by omega)).mono ?_
  rintro e w' ⟨m1,m2,m3,rfl,hm1,hm2,hm3,hC,hf⟩
  exact ⟨rfl,h.step (hc.zez hf) ⟨_,_,_,_,hC,by rw[List.map_append,List.map_append,zf9,hp];rfl⟩ (by have:=h.few;simp[St.lay];omega)⟩
theorem zv0 {C:Nat} {ct t:ByteArray} {w0 w:World} {s:St} (im:Bool) (h:At C ct w0 s w) (hk:s.k+t.size≤ct.size) (ht:1≤t.size) (him:(t.toList == [33,91])=im) :
  Calls Tryz.prog 204 #[.pointer (some ⟨C,0,none⟩),.string t] w fun e w'=>e = .returned (.tuple #[])∧At C ct w0 (s.open ct t.data.toList im) w':=by
 obtain ⟨ms,sa,sc,A,hc,hp⟩:=h.cut
 refine (zyn C ct t im s.f s.k ms s.os sa sc A w hc hk him (by have:=h.few;have:=hc.kl;have:=hc.small;omega)).mono ?_
 rintro e w' ⟨m1,m2,sa',sc',rfl,hm1,hm2,hC,hf⟩
 have hl:(ms++zcp ct s.f s.k m1).length=(s.ps++zcw ct s.f s.k).length:=by rw[← hp,← zf9 ct s.f s.k m1,← List.map_append,List.length_map]
 rw[hl,← S.length_data t] at hC
 exact ⟨rfl,h.step hf ⟨_,_,_,_,hC,by rw[List.map_append,List.map_append,zf9,hp];rfl⟩ (by have:=h.few;simp only[St.open,List.length_append,List.length_cons,List.length_nil,S.length_data];omega)⟩
theorem zyj {C:Nat} {ct:ByteArray} {w0 w:World} {s:St} (h:At C ct w0 s w) (hk:s.k<ct.size) :
  Calls Tryz.prog 203 #[.pointer (some ⟨C,0,none⟩)] w fun e w'=>e = .returned (.bool (s.close ct).1)∧At C ct w0 (s.close ct).2 w':=by
 obtain ⟨ms,sa,sc,A,hc,hp⟩:=h.cut
 have hfew:=h.few
 have hsm:=hc.small
 rcases List.eq_nil_or_concat s.os with ho|⟨os,o,ho⟩
 ·have he:s.close ct=(false,s):=by unfold St.close;rw[ho];rfl
  rw[he]
  rw[ho] at hc
  refine (zts C ct s.f s.k ms sa sc A w hc).mono ?_
  rintro e w' ⟨rfl,hb⟩
  exact ⟨rfl,h.same hb⟩
 ·have ho:s.os=os++[o]:=by simpa using ho
  have hlast:s.os.getLast?=some o:=by rw[ho];simp
  have hdl:s.os.dropLast=os:=by rw[ho];simp
  have hol:os.length+1≤s.k:=by have:=hfew;rw[ho] at this;simpa using this
  rw[ho] at hc
  cases hd:o.dead with
  | true=>
   have he:s.close ct=(false,⟨s.f,s.k,s.ps,os⟩):=by unfold St.close;rw[hlast,hdl];simp[hd]
   rw[he]
   refine (ztj C ct s.f s.k ms os o sa sc A w hc (by omega) hd).mono ?_
   rintro e w' ⟨rfl,hC,hb⟩
   exact ⟨rfl,h.step hb ⟨_,_,_,_,hC,hp⟩ (by show os.length≤s.k;omega)⟩
  | false=>
   cases hv:S.zd1 (ct.data.toList.drop (s.k+1)) with
   | false=>
    have he:s.close ct=(false,⟨s.f,s.k,s.ps,os⟩):=by unfold St.close;rw[hlast,hdl];simp[hv]
    rw[he]
    refine (ztt C ct s.f s.k ms os o sa sc A w hc (by omega) hd hk hv).mono ?_
    rintro e w' ⟨rfl,hC,hb⟩
    exact ⟨rfl,h.step hb ⟨_,_,_,_,hC,hp⟩ (by show os.length≤s.k;omega)⟩
   | true=>
    obtain ⟨n,hn⟩:∃ n,(S.addrOf (ct.data.toList.drop (s.k+1))).length=n:=⟨_,rfl⟩
    have hr:=S.ztz _ hv
    rw[List.length_drop,S.length_data,hn] at hr
    have hj:o.j<ms.length:=hc.inl o (by simp)
    have hms:ms=ms.take o.j++ms[o.j]::ms.drop (o.j+1):=by rw[← List.drop_eq_getElem_cons hj,List.take_append_drop]
    have hlen:o.j=(ms.take o.j).length:=by rw[List.length_take];omega
    have he:s.close ct=(true,⟨s.k+(3+n),s.k+(3+n),s.ps.take o.j++[zhn (S.addrOf (ct.data.toList.drop (s.k+1))) o.image (s.ps.drop (o.j+1)++zcw ct s.f s.k)],if o.image then os else os.map Opn.kill⟩):=by
     unfold St.close;rw[hlast,hdl];simp[hv,hd,hn]
    rw[he]
    obtain ⟨P,hP⟩:∃ P,P=ms.take o.j:=⟨_,rfl⟩
    obtain ⟨M,hM⟩:∃ M,M=ms.drop (o.j+1):=⟨_,rfl⟩
    obtain ⟨a,ha⟩:∃ a,a=ms[o.j]:=⟨_,rfl⟩
    have hPp:P.map Mem.p=s.ps.take o.j:=by rw[hP,← hp,List.map_take]
    have hMp:M.map Mem.p=s.ps.drop (o.j+1):=by rw[hM,← hp,List.map_drop]
    rw[← hP,← hM,← ha] at hms
    rw[← hP] at hlen
    rw[hms] at hc
    refine close_some C ct s.f s.k n P M a os o sa sc A w hc hlen (by omega) hd hk hv hn (by omega) _ ?_
    rintro e w' ⟨m1,A',kf,kl,rfl,hC,hb⟩
    refine ⟨rfl,h.step hb ⟨_,sa,sc,A',hC,?_⟩ ?_⟩
    ·rw[List.map_append,hPp,List.map_append,hMp,zf9];rfl
    ·show (if o.image then os else os.map Opn.kill).length≤s.k+(3+n)
     split
     ·omega
     ·rw[List.length_map];omega
theorem zjj (l p:List UInt8) (h:Lib.hasPrefix l p=true):p.length≤l.length:=by
 unfold Lib.hasPrefix at h
 have:=(List.isPrefixOf_iff_prefix.1 h).length_le
 exact this
theorem zjh {C:Nat} {ct:ByteArray} {w0 w:World} {s:St} (h:At C ct w0 s w) (hk:s.k<ct.size) :
  Calls Tryz.prog 158 #[.pointer (some ⟨C,0,none⟩)] w fun e w'=>e = .returned (.bool (s.bracket ct).1)∧At C ct w0 (s.bracket ct).2 w':=by
 obtain ⟨x3,x4,x5,hcc⟩:=h.cells
 unfold St.bracket
 cases hp:Lib.hasPrefix (ct.data.toList.drop s.k) [93] with
 | true=>
  have hc:=zyj h.drew hk
  refine (zq9 C ct s.f s.k x3 x4 x5 w hcc h.kl hp (fun b w'=>b=(s.close ct).1∧At C ct w0 (s.close ct).2 w') (hc.mono (fun e w' hh=>⟨_,hh.1,rfl,hh.2⟩))).mono ?_
  rintro e w' ⟨b,rfl,rfl,hA⟩
  exact ⟨rfl,hA⟩
 | false=>
  cases hq:Lib.hasPrefix (ct.data.toList.drop s.k) [91] with
  | true=>
   have hc:=zv0 (t:=⟨#[91]⟩) false h.drew.drew (by show s.k+1≤ct.size;omega) (by decide) (by kernel_rfl)
   refine (zq7 C ct s.f s.k x3 x4 x5 w hcc h.kl hp hq _ hc).mono ?_
   rintro e w' ⟨rfl,hA⟩
   exact ⟨rfl,hA⟩
  | false=>
   cases hr:Lib.hasPrefix (ct.data.toList.drop s.k) [33,91] with
   | true=>
    have hl:=zjj _ _ hr
    rw[List.length_drop,S.length_data] at hl
    have hl:2≤ct.size-s.k:=hl
    have hc:=zv0 (t:=⟨#[33,91]⟩) true h.drew.drew.drew (by show s.k+2≤ct.size;omega) (by decide) (by kernel_rfl)
    refine (zon C ct s.f s.k x3 x4 x5 w hcc h.kl hp hq hr _ hc).mono ?_
    rintro e w' ⟨rfl,hA⟩
    exact ⟨rfl,hA⟩
   | false=>
    refine (zq4 C ct s.f s.k x3 x4 x5 w hcc h.kl hp hq hr).mono ?_
    rintro e w' ⟨rfl,hb⟩
    exact ⟨rfl,h.same hb⟩
theorem zzp (ct:ByteArray) (s:St) (h:s.k<ct.size) (hb:ct[s.k]=92):step ct s=(if Lib.hasPrefix (ct.data.toList.drop s.k) [92,10]=true then s.lay ct zh1 2 else if S.escapes (ct.data.toList.drop s.k)=true then (s.skip ct 1).text 1 else s.text 1):=by
 rw[zf4 ct s h,hb];unfold zj3;rw[if_pos rfl]
theorem zze (ct:ByteArray) (s:St) (h:s.k<ct.size) (hb:ct[s.k]=96):step ct s=(match S.ze6 (ct.data.toList.drop s.k) (S.same (ct.data.toList.drop s.k)) with
  | some v=>s.lay ct (zgc ct s.k (S.same (ct.data.toList.drop s.k)) v) (v+S.same (ct.data.toList.drop s.k))
  | none=>s.text (S.same (ct.data.toList.drop s.k))):=by
 rw[zf4 ct s h,hb];unfold zj3;rw[if_neg (by decide),if_pos rfl] <;> rfl
theorem zzu (ct:ByteArray) (s:St) (h:s.k<ct.size) (hb:ct[s.k]=32):step ct s=(if Lib.hasPrefix (ct.data.toList.drop (s.k+S.same (ct.data.toList.drop s.k))) [10]=true then
   if 2≤S.same (ct.data.toList.drop s.k) then s.lay ct zh1 (S.same (ct.data.toList.drop s.k)+1)
   else s.lay ct zgp (S.same (ct.data.toList.drop s.k)+1)
  else s.text (S.same (ct.data.toList.drop s.k))):=by
 rw[zf4 ct s h,hb];unfold zj3;rw[if_neg (by decide),if_neg (by decide),if_pos rfl]
theorem zzw (ct:ByteArray) (s:St) (h:s.k<ct.size) (hb:ct[s.k]=10):step ct s=s.lay ct zgp 1:=by
 rw[zf4 ct s h,hb];unfold zj3;rw[if_neg (by decide),if_neg (by decide),if_neg (by decide),if_pos rfl]
theorem zzb (ct:ByteArray) (s:St) (h:s.k<ct.size) (hb:ct[s.k]=60):step ct s=(if S.zd9 (ct.data.toList.drop s.k)=true then s.lay ct (zj0 (S.zcf (ct.data.toList.drop s.k))) ((S.zcf (ct.data.toList.drop s.k)).length+2) else s.text 1):=by
 rw[zf4 ct s h,hb];unfold zj3;rw[if_neg (by decide),if_neg (by decide),if_neg (by decide),if_neg (by decide),if_pos rfl]
theorem zt4 (ct:ByteArray) (s:St) (h:s.k<ct.size) (hb:ct[s.k]=42∨ct[s.k]=95):step ct s=s.lay ct (zk7 ct s.k (S.same (ct.data.toList.drop s.k))) (S.same (ct.data.toList.drop s.k)):=by
 rw[zf4 ct s h];unfold zj3
 rcases hb with hb|hb <;> rw[hb,if_neg (by decide),if_neg (by decide),if_neg (by decide),if_neg (by decide),if_neg (by decide),if_pos (by decide)]
theorem zqy (ct:ByteArray) (s:St) (h:s.k<ct.size) (hb:ct[s.k]=33∨ct[s.k]=91∨ct[s.k]=93):step ct s=(if (s.bracket ct).1=true then (s.bracket ct).2 else (s.bracket ct).2.text 1):=by
 rw[zf4 ct s h];unfold zj3
 rcases hb with hb|hb|hb <;> rw[hb,if_neg (by decide),if_neg (by decide),if_neg (by decide),if_neg (by decide),if_neg (by decide),if_neg (by decide),if_pos (by decide)]
theorem zx3 (ct:ByteArray) (s:St) (h:s.k<ct.size) (h1:ct[s.k]≠92) (h2:ct[s.k]≠96) (h3:ct[s.k]≠32) (h4:ct[s.k]≠10) (h5:ct[s.k]≠60) (h6:ct[s.k]≠42) (h7:ct[s.k]≠95) (h8:ct[s.k]≠33) (h9:ct[s.k]≠91) (h10:ct[s.k]≠93):step ct s=s.text 1:=by
 rw[zf4 ct s h];unfold zj3
 rw[if_neg h1,if_neg h2,if_neg h3,if_neg h4,if_neg h5,if_neg (by rintro (h|h);exact h6 h;exact h7 h),if_neg (by rintro (h|h|h);exact h8 h;exact h9 h;exact h10 h)]
theorem zg9 {P:Program} {Q:Exit→Act→World→Prop} {a:Act} {w:World} {x:Code} (h:x.wp P Q a w):(Code.skip.seq x).wp P Q a w:=wp_seq (wp_skip h)
theorem zp5 {P:Program} {Q:Exit→Act→World→Prop} {a:Act} {w:World} {l:Nat} {x:Code} (h:x.wp P Q a w):((Code.label l).seq x).wp P Q a w:=wp_seq (wp_label h)
theorem zld {P:Program} {Q:Exit→Act→World→Prop} {a:Act} {w:World} {l:Nat} {x:Code} (h:Q (.goto l) a w):((Code.goto l).seq x).wp P Q a w:=wp_seq (wp_goto h)
theorem zhw {P:Program} {Q:Exit→Act→World→Prop} {a:Act} {w:World} {x y:Code} (R:Act→World→Prop) (h:∀ K:Act→World→Prop,(∀ a w,R a w→K a w)→x.wp P (Exit.then K Q) a w) (hy:∀ a w,R a w→y.wp P Q a w):(Code.seq x y).wp P Q a w:=wp_seq (h _ hy)
theorem zpe {P:Program} {a:Act} {w:World} {Q:Exit→Act→World→Prop} {c x c0 c1 c2 c3 c4 c5:Code} (J:Nat→Nat→Act→World→Prop) (hJ:∀ l n a w,J l n a w→l<6)
  (f0:c=x.seq ((Code.label 0).seq c0)) (fx:findLabel x 0=none) (f1:findLabel c 1=some c1) (f2:findLabel c 2=some c2) (f3:findLabel c 3=some c3) (f4:findLabel c 4=some c4) (f5:findLabel c 5=some c5)
  (start:∀ QQ:Exit→Act→World→Prop,∀ K:Act→World→Prop,Hid (∀ n a w,J 0 n a w→K a w)→x.wp P (Exit.then K QQ) a w)
  (p0:∀ n a w,J 0 n a w→∀ K:Nat→Act→World→Prop,Hid (∀ l n' a' w',n' < n→J l n' a' w'→K l a' w')→c0.wp P (jumps K Q) a w)
  (p1:∀ n a w,J 1 n a w→∀ K:Nat→Act→World→Prop,Hid (∀ l n' a' w',n' < n→J l n' a' w'→K l a' w')→c1.wp P (jumps K Q) a w)
  (p2:∀ n a w,J 2 n a w→∀ K:Nat→Act→World→Prop,Hid (∀ l n' a' w',n' < n→J l n' a' w'→K l a' w')→c2.wp P (jumps K Q) a w)
  (p3:∀ n a w,J 3 n a w→∀ K:Nat→Act→World→Prop,Hid (∀ l n' a' w',n' < n→J l n' a' w'→K l a' w')→c3.wp P (jumps K Q) a w)
  (p4:∀ n a w,J 4 n a w→∀ K:Nat→Act→World→Prop,Hid (∀ l n' a' w',n' < n→J l n' a' w'→K l a' w')→c4.wp P (jumps K Q) a w)
  (p5:∀ n a w,J 5 n a w→∀ K:Nat→Act→World→Prop,Hid (∀ l n' a' w',n' < n→J l n' a' w'→K l a' w')→c5.wp P (jumps K Q) a w):(Code.scope c).wp P Q a w:=by
 refine zly (fun l=>match l with|0=>Code.skip.seq c0|1=>c1|2=>c2|3=>c3|4=>c4|_=>c5) (fun l a w=>∃ n,J l n a w) (fun l a w=>leastOf (fun n=>J l n a w)) ?_ ?_ ?_
 ·rintro l a w ⟨n,h⟩
  match l,hJ l n a w h with
  | 0,_=>rw[f0];simp[findLabel,fx]
  | 1,_=>exact f1
  | 2,_=>exact f2
  | 3,_=>exact f3
  | 4,_=>exact f4
  | 5,_=>exact f5
  | l+6,h6=>omega
 ·rw[f0]
  exact wp_seq (start _ _ (hid (fun n a w h=>zp5 (p0 n a w h _ (hid (fun l n' a' w' _ h=>⟨n',h⟩))))))
 ·rintro l a w h0
  have hs:=(leastOf_spec h0).1
  have key:Hid (∀ l' n' a' w',n' < leastOf (fun n=>J l n a w)→J l' n' a' w'→(∃ n,J l' n a' w')∧leastOf (fun n=>J l' n a' w')<leastOf (fun n=>J l n a w)):=
   hid (fun l' n' a' w' hlt h=>⟨⟨n',h⟩,Nat.lt_of_le_of_lt ((leastOf_spec ⟨n',h⟩).2 n' h) hlt⟩)
  match l,hJ l _ a w hs with
  | 0,_=>exact zg9 (p0 _ a w hs _ key)
  | 1,_=>exact p1 _ a w hs _ key
  | 2,_=>exact p2 _ a w hs _ key
  | 3,_=>exact p3 _ a w hs _ key
  | 4,_=>exact p4 _ a w hs _ key
  | 5,_=>exact p5 _ a w hs _ key
  | l+6,h6=>omega
def cntP:Pt→Nat
 | .mk _ _ _ kids _ _ _=>1+cntL kids
 where
 cntL:List Pt→Nat
 | []=>0
 | p::r=>cntP p+cntL r
abbrev cntL:=cntP.cntL
theorem zol (p:Pt):cntP p=1+cntL p.kids:=by cases p;rfl
theorem zco (p:Pt) (r:List Pt):cntL (p::r)=cntP p+cntL r:=rfl
theorem zr1 (a b:List Pt):cntL (a++b)=cntL a+cntL b:=by
 induction a with
 | nil=>simp[cntP.cntL]
 | cons p r ih=>simp only[List.cons_append,zco,ih];omega
theorem zie (p:Pt) (t:List UInt8):cntP (p.za4 t)=cntP p:=by cases p;rfl
def phi (l:List Pt):Nat:=(l.map (fun p=>cntP p+p.text.length)).sum
theorem zlu:phi []=0:=rfl
theorem zft (p:Pt) (r:List Pt):phi (p::r)=cntP p+p.text.length+phi r:=by simp[phi]
theorem zdo (a b:List Pt):phi (a++b)=phi a+phi b:=by simp[phi]
theorem zvm (l:List Pt):cntL l≤phi l:=by
 induction l with
 | nil=>exact Nat.le_refl _
 | cons p r ih=>rw[zco,zft];omega
theorem zsh (f:Nat) (l:List Pt):cntL (zdr f l)≤cntL l:=by
 induction f generalizing l with
 | zero=>exact Nat.zero_le _
 | succ f ih=>
  cases l with
  | nil=>exact Nat.le_refl _
  | cons p r=>
   simp only[zdr]
   split
   ·split
    ·have:=ih r;rw[zco];omega
    ·cases r with
     | nil=>exact Nat.le_refl _
     | cons q r'=>
      dsimp only
      split
      ·have:=ih (q.za4 (p.text++q.text)::r')
       rw[zco,zie] at this
       rw[zco,zco];omega
      ·have:=ih (q::r')
       rw[zco,zco];omega
   ·have:=ih r;rw[zco,zco];omega
theorem zih (s:Pt) (l:List Pt) (l1:List Pt) (x:Pt) (m:List Pt) (h:zeg s l=some (l1,x,m)):l=l1++x::m∧opens s x=true:=by
 induction l generalizing l1 x m with
 | nil=>simp[zeg] at h
 | cons p r ih=>
  simp only[zeg] at h
  cases hr:zeg s r with
  | none=>
   rw[hr] at h
   dsimp only at h
   split at h
   ·rename_i ho;simp at h;obtain ⟨rfl,rfl,rfl⟩:=h;exact ⟨rfl,ho⟩
   ·simp at h
  | some v=>
   obtain ⟨a,b,c⟩:=v
   rw[hr] at h
   simp at h
   obtain ⟨rfl,rfl,rfl⟩:=h
   obtain ⟨h1,h2⟩:=ih a b c hr
   exact ⟨by rw[h1];rfl,h2⟩
theorem znx (p:Pt) (t:List UInt8):(p.za4 t).text=t:=by cases p;rfl
theorem zus (f:Nat) (L:List Pt) (s:Pt):phi ((zcb f L s).1++[(zcb f L s).2])≤phi (L++[s]):=by
 induction f generalizing L s with
 | zero=>exact Nat.le_refl _
 | succ f ih=>
  simp only[zcb]
  split
  ·rename_i hs
   cases ho:zeg s L with
   | none=>exact Nat.le_refl _
   | some v=>
    obtain ⟨l1,x,m⟩:=v
    dsimp only
    refine Nat.le_trans (ih _ _) ?_
    obtain ⟨h1,h2⟩:=zih s L l1 x m ho
    subst h1
    have hx:x.text≠[]:=by
     intro e;unfold opens at h2;rw[e] at h2;simp at h2
    have hxl:0<x.text.length:=List.length_pos_iff.2 hx
    have hsl:0<s.text.length:=List.length_pos_iff.2 hs.2
    have hz:1≤zcc x s:=by unfold zcc;split <;> omega
    have hj:=zsh m.length m
    have hp:=zvm m
    have hw:cntP (zgh (zcc x s) m)≤1+phi m:=by
     rw[zol];show 1+cntL (zfm m)≤_;unfold zfm;omega
    have hwt:(zgh (zcc x s) m).text=[]:=rfl
    simp only[zdo,zft,zlu,zie,znx,List.length_drop,hwt,List.length_nil]
    omega
  ·exact Nat.le_refl _
theorem zw2 (L l:List Pt):phi (zil L l)≤phi (L++l):=by
 induction l generalizing L with
 | nil=>simp[zil]
 | cons s r ih=>
  simp only[zil]
  refine Nat.le_trans (ih _) ?_
  have:=zus s.text.length L s
  simp only[zdo,zft,zlu] at this ⊢
  omega
theorem znh (l:List Pt):cntL (zd7 l)≤phi l:=by
 unfold zd7 zfm
 have h1:=zsh (pairT l).length (pairT l)
 have h2:=zvm (pairT l)
 have h3:=zw2 [] l
 rw[List.nil_append] at h3
 unfold pairT at *
 omega
theorem zo3 (ct:ByteArray) (f k:Nat):phi (zcw ct f k)≤2*(k-f):=by
 unfold zcw
 split
 ·have:((ct.data.toList.drop f).take (k-f)).length≤k-f:=by rw[List.length_take];omega
  rw[zft,zlu];show 1+cntL []+_+0≤_
  show 1+0+((ct.data.toList.drop f).take (k-f)).length+0≤_
  omega
 ·exact Nat.zero_le _
def Fit (s:St):Prop:=phi s.ps≤3*s.f∧s.f≤s.k
theorem Fit.text {s:St} (h:Fit s) (n:Nat):Fit (s.text n):=⟨h.1,by have:=h.2;show s.f≤s.k+n;omega⟩
theorem Fit.skip {s:St} (h:Fit s) (ct:ByteArray) (n:Nat):Fit (s.skip ct n):=by
 refine ⟨?_,Nat.le_refl _⟩
 have h1:=zo3 ct s.f s.k
 have h2:=h.1
 have h3:=h.2
 show phi (s.ps++zcw ct s.f s.k)≤3*(s.k+n)
 rw[zdo];omega
theorem Fit.lay {s:St} (h:Fit s) (ct:ByteArray) (p:Pt) (n:Nat) (hp:cntP p+p.text.length≤3*n):Fit (s.lay ct p n):=by
 refine ⟨?_,Nat.le_refl _⟩
 have h1:=zo3 ct s.f s.k
 have h2:=h.1
 have h3:=h.2
 show phi ((s.ps++zcw ct s.f s.k)++[p])≤3*(s.k+n)
 rw[zdo,zdo,zft,zlu];omega
theorem zlw (k:Int) (i t:List UInt8) (z:Nat) (a b:Bool):cntP (.mk k i t [] z a b)=1:=rfl
theorem znr (l:List Pt) (j:Nat):phi (l.take j)+phi (l.drop (j+1))≤phi l:=by
 have h:phi l=phi (l.take j)+phi (l.drop j):=by rw[← zdo,List.take_append_drop]
 rw[h]
 cases hd:l.drop j with
 | nil=>rw[← List.drop_drop,hd];simp[phi]
 | cons p r=>rw[← List.drop_drop,hd,zft];show _+phi r≤_;omega
theorem Fit.open {s:St} (h:Fit s) (ct:ByteArray) (t:List UInt8) (im:Bool) (ht:1≤t.length):Fit (s.open ct t im):=by
 have:=Fit.lay h ct (zbj t) t.length (by unfold zbj;rw[zlw];show 1+t.length≤_;omega)
 exact this
theorem Fit.bracket {s:St} (h:Fit s) (ct:ByteArray):Fit (s.bracket ct).2:=by
 unfold St.bracket
 split
 ·unfold St.close
  split
  ·exact h
  ·rename_i o _
   split
   ·refine ⟨?_,Nat.le_refl _⟩
    have h1:=zo3 ct s.f s.k
    have h2:=h.1
    have h3:=h.2
    have h4:=znr s.ps o.j
    have h5:=znh (s.ps.drop (o.j+1)++zcw ct s.f s.k)
    rw[zdo] at h5
    show phi (s.ps.take o.j++[zhn _ o.image (s.ps.drop (o.j+1)++zcw ct s.f s.k)])≤3*(s.k+(3+_))
    rw[zdo,zft,zlu,zol]
    show phi (s.ps.take o.j)+(1+cntL (zd7 (s.ps.drop (o.j+1)++zcw ct s.f s.k))+0+0)≤_
    omega
   ·exact h
 ·split
  ·exact h.open ct _ _ (by decide)
  ·split
   ·exact h.open ct _ _ (by decide)
   ·exact h
theorem Fit.step {s:St} (h:Fit s) (ct:ByteArray) (hk:s.k<ct.size):Fit (step ct s):=by
 rw[zf4 ct s hk]
 have hs:=zfy ct s.k hk
 unfold zj3
 split
 ·split
  ·exact h.lay ct _ _ (by decide)
  ·split
   ·exact (h.skip ct 1).text 1
   ·exact h.text 1
 ·split
  ·split
   ·rename_i v hv
    have hb:=S.zgv _ _ _ (by rw[List.length_drop,S.length_data];omega) hv
    refine h.lay ct _ _ ?_
    unfold zgc;rw[zlw]
    have:=S.zm9 ((ct.data.toList.drop (s.k+S.same (ct.data.toList.drop s.k))).take (v-S.same (ct.data.toList.drop s.k)))
    rw[List.length_take] at this
    show 1+(S.zc9 _).length≤_
    omega
   ·exact h.text _
  ·split
   ·split
    ·split
     ·exact h.lay ct _ _ (by show 1+0+0≤_;omega)
     ·exact h.lay ct _ _ (by show 1+0+0≤_;omega)
    ·exact h.text _
   ·split
    ·exact h.lay ct _ _ (by decide)
    ·split
     ·split
      ·exact h.lay ct _ _ (by show (1+(1+0+0))+0≤_;omega)
      ·exact h.text 1
     ·split
      ·refine h.lay ct _ _ ?_
       unfold zk7;rw[zlw]
       show 1+((ct.data.toList.drop s.k).take _).length≤_
       rw[List.length_take];omega
      ·split
       ·split
        ·exact h.bracket ct
        ·exact (h.bracket ct).text 1
       ·exact h.text 1
theorem zy1 (ct:ByteArray) (s:St) (r:List Pt) (h:Ends ct s r) (hf:Fit s):phi r≤3*ct.size:=by
 induction h with
 | done s h=>rw[← h];have:=(hf.skip ct 0).1;exact this
 | go s r h hr ih=>exact ih (hf.step ct h)
theorem zyf (ct:ByteArray) (s:St) (r r':List Pt) (h:Ends ct s r) (h':Ends ct s r'):r=r':=by
 induction h generalizing r' with
 | done s h=>
  cases h' with
  | done _ _=>rfl
  | go _ _ h2 _=>omega
 | go s r h hr ih=>
  cases h' with
  | done _ h2=>omega
  | go _ _ _ h3=>exact ih r' h3
def zfq:St:=⟨0,0,[],[]⟩
noncomputable def zi9 (c:List UInt8):List Pt:=by
 classical exact if h:∃ r,Ends (S.B c) zfq r then zd7 (Classical.choose h) else []
theorem zkb (c:List UInt8) (r:List Pt) (h:Ends (S.B c) zfq r):zi9 c=zd7 r:=by
 have hx:∃ r,Ends (S.B c) zfq r:=⟨r,h⟩
 unfold zi9
 rw[dif_pos hx,zyf _ _ _ _ (Classical.choose_spec hx) h]
theorem zpl (c:List UInt8):cntL (zi9 c)≤3*c.length:=by
 by_cases hx:∃ r,Ends (S.B c) zfq r
 ·obtain ⟨r,h⟩:=hx
  rw[zkb c r h]
  have h1:=znh r
  have h2:=zy1 _ _ _ h ⟨Nat.le_refl _,Nat.le_refl _⟩
  rw[S.zbc] at h2
  omega
 ·unfold zi9;rw[dif_neg hx];exact Nat.zero_le _
structure zjs (C:Nat) (v2:Value) (a:Act):Prop where
 size:a.tmps.size=89
 zero:a.tmps[0]?=some (.pointer (some ⟨C,0,none⟩))
 two:a.tmps[2]?=some v2
 defers:a.defers=[]
theorem z0e (l:List Value) (h:l.length=89):∃ u:Nat→Value,l=[u 0,u 1,u 2,u 3,u 4,u 5,u 6,u 7,u 8,u 9,u 10,u 11,u 12,u 13,u 14,u 15,u 16,u 17,u 18,u 19,u 20,u 21,u 22,u 23,u 24,u 25,u 26,u 27,u 28,u 29,u 30,u 31,u 32,u 33,u 34,u 35,u 36,u 37,u 38,u 39,u 40,u 41,u 42,u 43,u 44,u 45,u 46,u 47,u 48,u 49,u 50,u 51,u 52,u 53,u 54,u 55,u 56,u 57,u 58,u 59,u 60,u 61,u 62,u 63,u 64,u 65,u 66,u 67,u 68,u 69,u 70,u 71,u 72,u 73,u 74,u 75,u 76,u 77,u 78,u 79,u 80,u 81,u 82,u 83,u 84,u 85,u 86,u 87,u 88]∧∀ i,i<89→l[i]?=some (u i):=by
 refine ⟨fun i=>l[i]?.getD undef,?_,?_⟩
 ·show l=(List.range 89).map (fun i=>l[i]?.getD undef)
  apply List.ext_getElem?
  intro i
  rw[List.getElem?_map]
  by_cases hi:i<89
  ·rw[List.getElem?_range hi,List.getElem?_eq_getElem (by omega),Option.map_some,List.getElem?_eq_getElem (by omega)];rfl
  ·rw[List.getElem?_eq_none (by omega),List.getElem?_eq_none (by simp;omega)];rfl
 ·intro i hi
  show l[i]?=some (l[i]?.getD undef)
  rw[List.getElem?_eq_getElem (by omega)];rfl
theorem zjs.out {C:Nat} {v2:Value} {a:Act} (h:zjs C v2 a):∃ u:Nat→Value,a = { tmps:=#[.pointer (some ⟨C,0,none⟩),u 1,v2,u 3,u 4,u 5,u 6,u 7,u 8,u 9,u 10,u 11,u 12,u 13,u 14,u 15,u 16,u 17,u 18,u 19,u 20,u 21,u 22,u 23,u 24,u 25,u 26,u 27,u 28,u 29,u 30,u 31,u 32,u 33,u 34,u 35,u 36,u 37,u 38,u 39,u 40,u 41,u 42,u 43,u 44,u 45,u 46,u 47,u 48,u 49,u 50,u 51,u 52,u 53,u 54,u 55,u 56,u 57,u 58,u 59,u 60,u 61,u 62,u 63,u 64,u 65,u 66,u 67,u 68,u 69,u 70,u 71,u 72,u 73,u 74,u 75,u 76,u 77,u 78,u 79,u 80,u 81,u 82,u 83,u 84,u 85,u 86,u 87,u 88],defers:=[] }:=by
 obtain ⟨tm,df⟩:=a
 obtain ⟨l⟩:=tm
 obtain ⟨h1,h2,h3,h4⟩:=h
 simp only at h1 h2 h3 h4
 obtain ⟨u,hl,hu⟩:=z0e l (by simpa using h1)
 refine ⟨u,?_⟩
 have e0:u 0 = .pointer (some ⟨C,0,none⟩):=by
  have:=hu 0 (by omega)
  have h2':l[0]?=some (.pointer (some ⟨C,0,none⟩)):=by simpa using h2
  rw[h2'] at this;exact (Option.some.inj this).symm
 have e2:u 2=v2:=by
  have:=hu 2 (by omega)
  have h3':l[2]?=some v2:=by simpa using h3
  rw[h3'] at this;exact (Option.some.inj this).symm
 rw[hl,h4,e0,e2]
def cutJ (C:Nat) (ct:ByteArray) (w0:World) (s0:St) (l n:Nat) (a:Act) (w:World):Prop:=match l with
 | 0=>∃ v2 s,zjs C v2 a∧At C ct w0 s w∧(∀ r,Ends ct s r→Ends ct s0 r)∧n=8*(ct.size-s.k)+4
 | 1=>∃ s,zjs C (.int .i64 1) a∧At C ct w0 s w∧(∀ r,Ends ct s r→Ends ct s0 r)∧(∃ h:s.k<ct.size,ct[s.k]=92)∧n=8*(ct.size-s.k)+3
 | 2=>∃ s,zjs C (.int .i64 1) a∧At C ct w0 s w∧(∀ r,Ends ct s r→Ends ct s0 r)∧(∃ h:s.k<ct.size,ct[s.k]=32)∧n=8*(ct.size-s.k)+3
 | 3=>∃ (s:St) (z:Nat),zjs C (.int .i64 (z:Nat)) a∧At C ct w0 s w∧(∀ r,Ends ct (s.lay ct zgp z) r→Ends ct s0 r)∧1≤z∧s.k+z≤ct.size∧n=8*(ct.size-s.k)+1
 | 4=>∃ (s:St) (z:Nat),zjs C (.int .i64 (z:Nat)) a∧At C ct w0 s w∧(∀ r,Ends ct (s.text z) r→Ends ct s0 r)∧1≤z∧s.k+z≤ct.size∧n=8*(ct.size-s.k)+1
 | 5=>∃ (s:St) (z:Nat),zjs C (.int .i64 (z:Nat)) a∧At C ct w0 s w∧(∀ r,Ends ct (s.lay ct zh1 z) r→Ends ct s0 r)∧1≤z∧s.k+z≤ct.size∧n=8*(ct.size-s.k)+1
 | _=>False
theorem zzo (C:Nat) (ct:ByteArray) (w0:World) (s0:St) (l n:Nat) (a:Act) (w:World) (h:cutJ C ct w0 s0 l n a w):l<6:=by
 match l with
 | 0=>omega
 | 1=>omega
 | 2=>omega
 | 3=>omega
 | 4=>omega
 | 5=>omega
 | l+6=>exact h.elim
theorem zlr (ct:ByteArray) (s:St):((s.bracket ct).1=true→s.k<(s.bracket ct).2.k)∧((s.bracket ct).1=false→(s.bracket ct).2.k=s.k):=by
 unfold St.bracket
 split
 ·unfold St.close
  split
  ·exact ⟨fun h=>by simp at h,fun _=>rfl⟩
  ·split
   ·exact ⟨fun _=>by show s.k<s.k+_;omega,fun h=>by simp at h⟩
   ·exact ⟨fun h=>by simp at h,fun _=>rfl⟩
 ·split
  ·exact ⟨fun _=>by show s.k<s.k+1;omega,fun h=>by simp at h⟩
  ·split
   ·exact ⟨fun _=>by show s.k<s.k+2;omega,fun h=>by simp at h⟩
   ·exact ⟨fun h=>by simp at h,fun _=>rfl⟩
set_option maxRecDepth 100000 in
set_option maxHeartbeats 8000000 in
theorem zzs (C:Nat) (ct:ByteArray) (s0:St) (w:World) (h:At C ct w s0 w) :
  Calls Tryz.prog 106 #[.pointer (some ⟨C,0,none⟩)] w fun e w'=>e = .returned (.tuple #[])∧∃ s,At C ct w s w'∧Ends ct s0 s.ps:=by
 have hH:=hid h
 clear h
 go_enter Tryz.func106,Tryz.ntmps106
 go_wp2_with fail
 refine zpe (cutJ C ct w s0) (zzo C ct w s0) rfl rfl rfl rfl rfl rfl rfl ?start ?p0 ?p1 ?p2 ?p3 ?p4 ?p5
 case start=>
  intro QQ K hK
  go_wp2
  exact hK.out _ _ _ ⟨_,s0,⟨rfl,rfl,rfl,rfl⟩,hH.out,fun r h=>h,rfl⟩
 case p0=>
  rintro n a wr ⟨v2,s,hfr,hA,hE,rfl⟩ K hK
  obtain ⟨u,rfl⟩:=hfr.out
  obtain ⟨x3,x4,x5,hcc⟩:=hA.cells
  have hkl:=hA.kl
  have hsm:=hA.small
  have hAH:=hid hA
  have q0:wr.cell? ⟨C,0,none⟩=some (.string ct):=za0 hcc 0 _ rfl
  have q2:wr.cell? ⟨C,2,none⟩=some (.int .i64 (s.k:Nat)):=za0 hcc 2 _ rfl
  by_cases hk:s.k<ct.size
  ·have hne:((s.k:Int) == (ct.size:Int))=false:=by rw[beq_eq_false_iff_ne];omega
   obtain ⟨bv,hbv⟩:∃ bv:Nat,ct[s.k].toNat=bv:=⟨_,rfl⟩
   have hbyte:Hid (∀ b:UInt8,bv=b.toNat→ct[s.k]=b):=hid (fun b h=>UInt8.toNat_inj.1 (hbv.trans h))
   have hbne:Hid (∀ b:UInt8,bv≠b.toNat→ct[s.k]≠b):=hid (fun b h e=>h (by rw[← hbv,e]))
   have hE1:Hid (∀ r,Ends ct (step ct s) r→Ends ct s0 r):=hid (fun r h=>hE r (.go s r hk h))
   have hEH:=hid hE
   have hccH:=hid hcc
   have hI0:(0:Int)≤(s.k:Int):=by omega
   have hI1:(s.k:Int)<(ct.size:Int):=by omega
   clear hcc hA hE hfr
   go_wp2_with fail
   go_region
   go_wp2_with fail
   go_region
   by_cases h92:bv=92
   ·have hby:=hid (hbyte.out 92 h92)
    subst h92
    go_wp2
    go_step3
    exact hK.out 1 (8*(ct.size-s.k)+3) _ _ (by omega) ⟨s,⟨rfl,rfl,rfl,rfl⟩,hAH.out.drew.drew,hEH.out,⟨hk,hby.out⟩,rfl⟩
   have e92:((bv:Int) == 92)=false:=by rw[beq_eq_false_iff_ne];omega
   by_cases h96:bv=96
   ·have hby:=hid (hbyte.out 96 h96)
    subst h96
    have hst:=hid (zze ct s hk hby.out)
    have hR:=hid (zef C ct s.f s.k x3 x4 x5 wr.drew.drew hccH.out hkl)
    have hz:(ct.extract s.k ct.size).size=ct.size-s.k:=by simp
    have hSp:=hid (ztp hAH.out.drew.drew.drew hk)
    have hcs:=hid (fun wx=>zew (ct.extract s.k ct.size) wx (by rw[hz];simp[maxLen];omega) (by omega) (by rw[ByteArray.getElem_extract];simp[hby.out]))
    rw[zbh] at hcs
    have hsa:=zfy ct s.k hk
    obtain ⟨m,hm⟩:∃ m,S.same (ct.data.toList.drop s.k)=m:=⟨_,rfl⟩
    rw[hm] at hst hSp hcs hsa
    clear hm hz
    obtain ⟨hsa1,hzk⟩:=hsa
    cases hv:S.ze6 (ct.data.toList.drop s.k) m with
    | some v=>
     rw[hv] at hst hSp
     have hvH:=hid hv
     clear hv
     go_wp2_with fail
     refine hR.out.mono ?_
     rintro e w' ⟨rfl,rfl⟩
     go_wp2_with fail
     refine (hcs.out _).mono ?_
     rintro e w' ⟨rfl,rfl⟩
     go_wp2_with fail
     refine hSp.out.mono ?_
     rintro e w' ⟨rfl,hA'⟩
     have hA'H:=hid hA'
     clear hA'
     go_wp2
     go_step3
     exact hK.out 0 (8*(ct.size-(s.k+(v+m)))+4) _ _ (by omega) ⟨_,_,⟨rfl,rfl,rfl,rfl⟩,hA'H.out,fun r h=>hE1.out r (by rw[hst.out];exact h),rfl⟩
    | none=>
     rw[hv] at hst hSp
     clear hv
     go_wp2_with fail
     refine hR.out.mono ?_
     rintro e w' ⟨rfl,rfl⟩
     go_wp2_with fail
     refine (hcs.out _).mono ?_
     rintro e w' ⟨rfl,rfl⟩
     go_wp2_with fail
     refine hSp.out.mono ?_
     rintro e w' ⟨rfl,hA'⟩
     have hA'H:=hid hA'
     obtain ⟨y3,y4,y5,hcc'⟩:=hA'.cells
     have k2:w'.cell? ⟨C,2,none⟩=some (.int .i64 (s.k:Nat)):=za0 hcc' 2 _ rfl
     have kf:=za7 hcc'
     clear hA' hcc'
     go_wp2
     go_step3
     go_wp2
     go_step3
     exact hK.out 0 (8*(ct.size-(s.k+m))+4) _ _ (by omega) ⟨_,_,⟨rfl,rfl,rfl,rfl⟩,hA'H.out.text m hzk,fun r h=>hE1.out r (by rw[hst.out];exact h),rfl⟩
   have e96:((bv:Int) == 96)=false:=by rw[beq_eq_false_iff_ne];omega
   by_cases h32:bv=32
   ·have hby:=hid (hbyte.out 32 h32)
    subst h32
    go_wp2
    go_step3
    exact hK.out 2 (8*(ct.size-s.k)+3) _ _ (by omega) ⟨s,⟨rfl,rfl,rfl,rfl⟩,hAH.out.drew.drew,hEH.out,⟨hk,hby.out⟩,rfl⟩
   have e32:((bv:Int) == 32)=false:=by rw[beq_eq_false_iff_ne];omega
   by_cases h10:bv=10
   ·have hby:=hid (hbyte.out 10 h10)
    subst h10
    have hst:=hid (zzw ct s hk hby.out)
    go_wp2
    go_step3
    exact hK.out 3 (8*(ct.size-s.k)+1) _ _ (by omega) ⟨s,1,⟨rfl,rfl,rfl,rfl⟩,hAH.out.drew.drew,fun r h=>hE1.out r (by rw[hst.out];exact h),by omega,by omega,rfl⟩
   have e10:((bv:Int) == 10)=false:=by rw[beq_eq_false_iff_ne];omega
   by_cases h60:bv=60
   ·have hby:=hid (hbyte.out 60 h60)
    subst h60
    have hst:=hid (zzb ct s hk hby.out)
    have hLA:=hid (znv hAH.out.drew.drew hk)
    have hzk:s.k+1≤ct.size:=hk
    cases hv:S.zd9 (ct.data.toList.drop s.k) with
    | true=>
     rw[hv,if_pos rfl] at hst hLA
     clear hv
     go_wp2_with fail
     refine hLA.out.mono ?_
     rintro e w' ⟨rfl,hA'⟩
     have hA'H:=hid hA'
     clear hA'
     go_wp2
     go_step3
     exact hK.out 0 (8*(ct.size-(s.k+((S.zcf (ct.data.toList.drop s.k)).length+2)))+4) _ _ (by omega) ⟨_,_,⟨rfl,rfl,rfl,rfl⟩,hA'H.out,fun r h=>hE1.out r (by rw[hst.out];exact h),rfl⟩
    | false=>
     rw[hv,if_neg (by simp)] at hst hLA
     clear hv
     go_wp2_with fail
     refine hLA.out.mono ?_
     rintro e w' ⟨rfl,hA'⟩
     have hA'H:=hid hA'
     obtain ⟨y3,y4,y5,hcc'⟩:=hA'.cells
     have k2:w'.cell? ⟨C,2,none⟩=some (.int .i64 (s.k:Nat)):=za0 hcc' 2 _ rfl
     have kf:=za7 hcc'
     clear hA' hcc'
     go_wp2
     go_step3
     go_wp2
     go_step3
     exact hK.out 0 (8*(ct.size-(s.k+1))+4) _ _ (by omega) ⟨_,_,⟨rfl,rfl,rfl,rfl⟩,hA'H.out.text 1 hzk,fun r h=>hE1.out r (by rw[hst.out];exact h),rfl⟩
   have e60:((bv:Int) == 60)=false:=by rw[beq_eq_false_iff_ne];omega
   by_cases h42:bv=42
   ·have hby:=hid (hbyte.out 42 h42)
    subst h42
    have hst:=hid (zt4 ct s hk (.inl hby.out))
    have hLR:=hid (zpx hAH.out.drew.drew hk (by rw[hby.out];decide))
    have hsa:=zfy ct s.k hk
    go_wp2_with fail
    refine hLR.out.mono ?_
    rintro e w' ⟨rfl,hA'⟩
    have hA'H:=hid hA'
    clear hA'
    go_wp2
    go_step3
    exact hK.out 0 (8*(ct.size-(s.k+S.same (ct.data.toList.drop s.k)))+4) _ _ (by omega) ⟨_,_,⟨rfl,rfl,rfl,rfl⟩,hA'H.out,fun r h=>hE1.out r (by rw[hst.out];exact h),rfl⟩
   have e42:((bv:Int) == 42)=false:=by rw[beq_eq_false_iff_ne];omega
   by_cases h95:bv=95
   ·have hby:=hid (hbyte.out 95 h95)
    subst h95
    have hst:=hid (zt4 ct s hk (.inr hby.out))
    have hLR:=hid (zpx hAH.out.drew.drew hk (by rw[hby.out];decide))
    have hsa:=zfy ct s.k hk
    go_wp2_with fail
    refine hLR.out.mono ?_
    rintro e w' ⟨rfl,hA'⟩
    have hA'H:=hid hA'
    clear hA'
    go_wp2
    go_step3
    exact hK.out 0 (8*(ct.size-(s.k+S.same (ct.data.toList.drop s.k)))+4) _ _ (by omega) ⟨_,_,⟨rfl,rfl,rfl,rfl⟩,hA'H.out,fun r h=>hE1.out r (by rw[hst.out];exact h),rfl⟩
   have e95:((bv:Int) == 95)=false:=by rw[beq_eq_false_iff_ne];omega
   by_cases h33:bv=33
   ·have hby:=hid (hbyte.out 33 h33)
    subst h33
    have hst:=hid (zqy ct s hk (.inl hby.out))
    have hLB:=hid (zjh hAH.out.drew.drew hk)
    have hbk:=zlr ct s
    obtain ⟨⟨xb,s1⟩,hx⟩:∃ x,s.bracket ct=x:=⟨_,rfl⟩
    rw[hx] at hst hLB hbk
    dsimp only at hst hLB hbk
    clear hx
    cases xb with
    | true=>
     have hkk:=hbk.1 rfl
     rw[if_pos rfl] at hst
     go_wp2_with fail
     refine hLB.out.mono ?_
     rintro e w' ⟨rfl,hA'⟩
     have hkl':=hA'.kl
     have hA'H:=hid hA'
     clear hA' hbk
     go_wp2
     go_step3
     exact hK.out 0 (8*(ct.size-s1.k)+4) _ _ (by omega) ⟨_,_,⟨rfl,rfl,rfl,rfl⟩,hA'H.out,fun r h=>hE1.out r (by rw[hst.out];exact h),rfl⟩
    | false=>
     have hkk:=hbk.2 rfl
     rw[if_neg (by simp)] at hst
     go_wp2_with fail
     refine hLB.out.mono ?_
     rintro e w' ⟨rfl,hA'⟩
     have hA'H:=hid hA'
     obtain ⟨y3,y4,y5,hcc'⟩:=hA'.cells
     have k2:w'.cell? ⟨C,2,none⟩=some (.int .i64 (s1.k:Nat)):=za0 hcc' 2 _ rfl
     have kf:=za7 hcc'
     have hzk:s1.k+1≤ct.size:=by omega
     have hkkH:=hid hkk
     clear hA' hcc' hbk hkk
     go_wp2
     go_step3
     go_wp2
     go_step3
     exact hK.out 0 (8*(ct.size-(s1.k+1))+4) _ _ (by have:=hkkH.out;omega) ⟨_,_,⟨rfl,rfl,rfl,rfl⟩,hA'H.out.text 1 hzk,fun r h=>hE1.out r (by rw[hst.out];exact h),rfl⟩
   have e33:((bv:Int) == 33)=false:=by rw[beq_eq_false_iff_ne];omega
   by_cases h91:bv=91
   ·have hby:=hid (hbyte.out 91 h91)
    subst h91
    have hst:=hid (zqy ct s hk (.inr (.inl hby.out)))
    have hLB:=hid (zjh hAH.out.drew.drew hk)
    have hbk:=zlr ct s
    obtain ⟨⟨xb,s1⟩,hx⟩:∃ x,s.bracket ct=x:=⟨_,rfl⟩
    rw[hx] at hst hLB hbk
    dsimp only at hst hLB hbk
    clear hx
    cases xb with
    | true=>
     have hkk:=hbk.1 rfl
     rw[if_pos rfl] at hst
     go_wp2_with fail
     refine hLB.out.mono ?_
     rintro e w' ⟨rfl,hA'⟩
     have hkl':=hA'.kl
     have hA'H:=hid hA'
     clear hA' hbk
     go_wp2
     go_step3
     exact hK.out 0 (8*(ct.size-s1.k)+4) _ _ (by omega) ⟨_,_,⟨rfl,rfl,rfl,rfl⟩,hA'H.out,fun r h=>hE1.out r (by rw[hst.out];exact h),rfl⟩
    | false=>
     have hkk:=hbk.2 rfl
     rw[if_neg (by simp)] at hst
     go_wp2_with fail
     refine hLB.out.mono ?_
     rintro e w' ⟨rfl,hA'⟩
     have hA'H:=hid hA'
     obtain ⟨y3,y4,y5,hcc'⟩:=hA'.cells
     have k2:w'.cell? ⟨C,2,none⟩=some (.int .i64 (s1.k:Nat)):=za0 hcc' 2 _ rfl
     have kf:=za7 hcc'
     have hzk:s1.k+1≤ct.size:=by omega
     have hkkH:=hid hkk
     clear hA' hcc' hbk hkk
     go_wp2
     go_step3
     go_wp2
     go_step3
     exact hK.out 0 (8*(ct.size-(s1.k+1))+4) _ _ (by have:=hkkH.out;omega) ⟨_,_,⟨rfl,rfl,rfl,rfl⟩,hA'H.out.text 1 hzk,fun r h=>hE1.out r (by rw[hst.out];exact h),rfl⟩
   have e91:((bv:Int) == 91)=false:=by rw[beq_eq_false_iff_ne];omega
   by_cases h93:bv=93
   ·have hby:=hid (hbyte.out 93 h93)
    subst h93
    have hst:=hid (zqy ct s hk (.inr (.inr hby.out)))
    have hLB:=hid (zjh hAH.out.drew.drew hk)
    have hbk:=zlr ct s
    obtain ⟨⟨xb,s1⟩,hx⟩:∃ x,s.bracket ct=x:=⟨_,rfl⟩
    rw[hx] at hst hLB hbk
    dsimp only at hst hLB hbk
    clear hx
    cases xb with
    | true=>
     have hkk:=hbk.1 rfl
     rw[if_pos rfl] at hst
     go_wp2_with fail
     refine hLB.out.mono ?_
     rintro e w' ⟨rfl,hA'⟩
     have hkl':=hA'.kl
     have hA'H:=hid hA'
     clear hA' hbk
     go_wp2
     go_step3
     exact hK.out 0 (8*(ct.size-s1.k)+4) _ _ (by omega) ⟨_,_,⟨rfl,rfl,rfl,rfl⟩,hA'H.out,fun r h=>hE1.out r (by rw[hst.out];exact h),rfl⟩
    | false=>
     have hkk:=hbk.2 rfl
     rw[if_neg (by simp)] at hst
     go_wp2_with fail
     refine hLB.out.mono ?_
     rintro e w' ⟨rfl,hA'⟩
     have hA'H:=hid hA'
     obtain ⟨y3,y4,y5,hcc'⟩:=hA'.cells
     have k2:w'.cell? ⟨C,2,none⟩=some (.int .i64 (s1.k:Nat)):=za0 hcc' 2 _ rfl
     have kf:=za7 hcc'
     have hzk:s1.k+1≤ct.size:=by omega
     have hkkH:=hid hkk
     clear hA' hcc' hbk hkk
     go_wp2
     go_step3
     go_wp2
     go_step3
     exact hK.out 0 (8*(ct.size-(s1.k+1))+4) _ _ (by have:=hkkH.out;omega) ⟨_,_,⟨rfl,rfl,rfl,rfl⟩,hA'H.out.text 1 hzk,fun r h=>hE1.out r (by rw[hst.out];exact h),rfl⟩
   have e93:((bv:Int) == 93)=false:=by rw[beq_eq_false_iff_ne];omega
   have hst:=hid (zx3 ct s hk (hbne.out 92 h92) (hbne.out 96 h96) (hbne.out 32 h32) (hbne.out 10 h10) (hbne.out 60 h60) (hbne.out 42 h42) (hbne.out 95 h95) (hbne.out 33 h33) (hbne.out 91 h91) (hbne.out 93 h93))
   have hzk:s.k+1≤ct.size:=hk
   have hA2:=hid hAH.out.drew.drew
   have k2:wr.drew.drew.cell? ⟨C,2,none⟩=some (.int .i64 (s.k:Nat)):=q2
   have kf:∀ i,wr.drew.drew.frozen? ⟨C,i,none⟩=false:=za7 hccH.out
   go_wp2
   go_step3
   go_wp2
   go_step3
   exact hK.out 0 (8*(ct.size-(s.k+1))+4) _ _ (by omega) ⟨_,_,⟨rfl,rfl,rfl,rfl⟩,hA2.out.text 1 hzk,fun r h=>hE1.out r (by rw[hst.out];exact h),rfl⟩
  ·have hke:s.k=ct.size:=by omega
   have heq:((s.k:Int) == (ct.size:Int))=true:=by rw[beq_iff_eq];omega
   have hS:=hid (zvl 0 hA.drew (by omega))
   have hEH:Hid (Ends ct s0 (s.skip ct 0).ps):=hid (hE _ (.done s hke))
   clear hcc hA hE hfr hke hk
   go_wp2_with fail
   go_region
   go_wp2_with fail
   refine hS.out.mono ?_
   rintro e w' ⟨rfl,hA'⟩
   have hA'H:=hid hA'
   clear hA'
   go_wp2
   simp only[jumps]
   exact bodyPost_ret (results_none rfl _ _ _) rfl ⟨rfl,s.skip ct 0,hA'H.out,hEH.out⟩
 case p1=>
  rintro n a wr ⟨s,hfr,hA,hE,⟨hk,hb⟩,rfl⟩ K hK
  obtain ⟨u,rfl⟩:=hfr.out
  obtain ⟨x3,x4,x5,hcc⟩:=hA.cells
  have hst:=hid (zzp ct s hk hb)
  have hE1:Hid (∀ r,Ends ct (step ct s) r→Ends ct s0 r):=hid (fun r h=>hE r (.go s r hk h))
  have hC1:=hid (zdh C ct ⟨#[92,10]⟩ s.f s.k x3 x4 x5 wr hcc hA.kl)
  rw[show (⟨#[92,10]⟩:ByteArray).data.toList=[92,10] from rfl] at hC1
  have hR:=hid (zef C ct s.f s.k x3 x4 x5 wr.drew hcc hA.kl)
  have hsm:=hA.small
  have hAH:=hid hA
  have hEs:=hid (fun wx=>zry (ct.extract s.k ct.size) wx (by simp[maxLen];omega))
  rw[zbh] at hEs
  clear hcc hE hb hA hfr
  generalize hp:Lib.hasPrefix (ct.data.toList.drop s.k) [92,10]=pb at hC1
  cases pb with
  | true=>
   have hkl:=zjj _ _ hp
   rw[List.length_drop,S.length_data] at hkl
   have hkl:s.k+2≤ct.size:=by have:2≤ct.size-s.k:=hkl;omega
   have hpH:=hid hp
   clear hp
   go_wp2_with fail
   refine hC1.out.mono ?_
   rintro e w' ⟨rfl,rfl⟩
   go_wp2
   go_step3
   exact hK.out 5 (8*(ct.size-s.k)+1) _ _ (by omega) ⟨s,2,⟨rfl,rfl,rfl,rfl⟩,hAH.out.drew,fun r h=>hE1.out r (by rw[hst.out,if_pos hpH.out];exact h),by omega,hkl,rfl⟩
  | false=>
   generalize he:S.escapes (ct.data.toList.drop s.k)=eb at hEs
   have hpH:=hid hp
   have heH:=hid he
   clear hp he
   cases eb with
   | true=>
    have hS:=hid (zvl 1 hAH.out.drew.drew hk)
    have hkl:s.k+2≤ct.size:=by
     have h1:=heH.out
     unfold S.escapes at h1
     by_cases h2:s.k+1<ct.size
     ·omega
     ·rw[List.getElem?_eq_none (by rw[List.length_drop,S.length_data];omega)] at h1;simp at h1
    go_wp2_with fail
    refine hC1.out.mono ?_
    rintro e w' ⟨rfl,rfl⟩
    go_wp2_with fail
    refine hR.out.mono ?_
    rintro e w' ⟨rfl,rfl⟩
    go_wp2_with fail
    refine (hEs.out _).mono ?_
    rintro e w' ⟨rfl,rfl⟩
    go_wp2_with fail
    refine hS.out.mono ?_
    rintro e w' ⟨rfl,hA'⟩
    have hA'H:=hid hA'
    clear hA'
    go_wp2
    go_step3
    exact hK.out 4 (8*(ct.size-(s.k+1))+1) _ _ (by omega) ⟨s.skip ct 1,1,⟨rfl,rfl,rfl,rfl⟩,hA'H.out,fun r h=>hE1.out r (by rw[hst.out,if_neg (by rw[hpH.out];simp),if_pos heH.out];exact h),by omega,hkl,rfl⟩
   | false=>
    go_wp2_with fail
    refine hC1.out.mono ?_
    rintro e w' ⟨rfl,rfl⟩
    go_wp2_with fail
    refine hR.out.mono ?_
    rintro e w' ⟨rfl,rfl⟩
    go_wp2_with fail
    refine (hEs.out _).mono ?_
    rintro e w' ⟨rfl,rfl⟩
    go_wp2
    go_step3
    exact hK.out 4 (8*(ct.size-s.k)+1) _ _ (by omega) ⟨s,1,⟨rfl,rfl,rfl,rfl⟩,hAH.out.drew.drew,fun r h=>hE1.out r (by rw[hst.out,if_neg (by rw[hpH.out];simp),if_neg (by rw[heH.out];simp)];exact h),by omega,by omega,rfl⟩
 case p2=>
  rintro n a wr ⟨s,hfr,hA,hE,⟨hk,hb⟩,rfl⟩ K hK
  obtain ⟨u,rfl⟩:=hfr.out
  obtain ⟨x3,x4,x5,hcc⟩:=hA.cells
  have hst:=hid (zzu ct s hk hb)
  have hE1:Hid (∀ r,Ends ct (step ct s) r→Ends ct s0 r):=hid (fun r h=>hE r (.go s r hk h))
  have hsm:=hA.small
  have hAH:=hid hA
  have hR:=hid (zef C ct s.f s.k x3 x4 x5 wr hcc hA.kl)
  have hR2:=hid (zef C ct s.f s.k x3 x4 x5 wr.drew hcc hA.kl)
  have hz:(ct.extract s.k ct.size).size=ct.size-s.k:=by simp
  obtain ⟨m,hm⟩:∃ m,S.same (ct.data.toList.drop s.k)=m:=⟨_,rfl⟩
  have hcs:Hid (∀ wx,Calls Tryz.prog 153 #[.string (ct.extract s.k ct.size)] wx fun e w'=>e = .returned (.int .i64 (m:Nat))∧wx=w'):=hid (fun wx=>by
   have:=zew (ct.extract s.k ct.size) wx (by rw[hz];simp[maxLen];omega) (by omega) (by rw[ByteArray.getElem_extract];simp[hb])
   rw[zbh,hm] at this;exact this)
  have hsa:=zfy ct s.k hk
  rw[hm] at hst hsa
  have hP:=hid (fun wx=>Tryz.strings_HasPrefix ((ct.extract s.k ct.size).extract m (ct.size-s.k)) ⟨#[10]⟩ wx)
  have hPe:((ct.extract s.k ct.size).extract m (ct.size-s.k)).data.toList=ct.data.toList.drop (s.k+m):=by
   rw[← hz,zbh,zbh,List.drop_drop]
  rw[hPe] at hP
  have hI0:(0:Int)≤(m:Int):=by omega
  have hI1:(m:Int)≤((ct.extract s.k ct.size).size:Int):=by omega
  have hI2:(m:Int)≤((ct.size-s.k:Nat):Int):=by omega
  have hI3:m≤ct.size-s.k:=by omega
  clear hcc hE hb hA hfr hm hPe
  go_wp2_with fail
  refine hR.out.mono ?_
  rintro e w' ⟨rfl,rfl⟩
  go_wp2_with fail
  refine (hcs.out _).mono ?_
  rintro e w' ⟨rfl,rfl⟩
  go_wp2_with fail
  refine hR2.out.mono ?_
  rintro e w' ⟨rfl,rfl⟩
  generalize hp:Lib.hasPrefix (ct.data.toList.drop (s.k+m)) (⟨#[10]⟩:ByteArray).data.toList=pb at hP
  have hpH:Hid (Lib.hasPrefix (ct.data.toList.drop (s.k+m)) [10]=pb):=hid hp
  clear hp
  go_wp2_with fail
  refine (hP.out _).mono ?_
  rintro e w' ⟨rfl,rfl⟩
  cases pb with
  | false=>
   go_wp2
   go_step3
   exact hK.out 4 (8*(ct.size-s.k)+1) _ _ (by omega) ⟨s,m,⟨rfl,rfl,rfl,rfl⟩,hAH.out.drew.drew,fun r h=>hE1.out r (by rw[hst.out,if_neg (by rw[hpH.out];simp)];exact h),hsa.1,hsa.2,rfl⟩
  | true=>
   have hkl:=zjj _ _ hpH.out
   rw[List.length_drop,S.length_data] at hkl
   have hkl:s.k+(m+1)≤ct.size:=by have:1≤ct.size-(s.k+m):=hkl;omega
   by_cases h2:2≤m
   ·have hcmp:(2:Int)<(m:Int)+1:=by omega
    go_wp2
    go_step3
    exact hK.out 5 (8*(ct.size-s.k)+1) _ _ (by omega) ⟨s,m+1,⟨rfl,rfl,rfl,rfl⟩,hAH.out.drew.drew,fun r h=>hE1.out r (by rw[hst.out,if_pos hpH.out,if_pos h2];exact h),by omega,hkl,rfl⟩
   ·have hcmp:¬ (2:Int)<(m:Int)+1:=by omega
    have hL:Hid (Calls Tryz.prog 162 #[.pointer (some ⟨C,0,none⟩),.agg #[.int .i64 9,.string ⟨#[]⟩,.string ⟨#[]⟩,.pointer none,.pointer none,.int .i64 0,.bool false,.bool false],.int .i64 ((m:Int)+1)] wr.drew.drew fun e w'=>(∃ v,e = .returned v)∧At C ct w (s.lay ct zgp (m+1)) w'):=hid (zur zgp (m+1) hAH.out.drew.drew hkl rfl rfl rfl)
    go_wp2
    go_step3
    go_wp2_with fail
    refine hL.out.mono ?_
    rintro e w' ⟨⟨v,rfl⟩,hA'⟩
    have hA'H:=hid hA'
    clear hA'
    go_wp2
    go_step3
    exact hK.out 0 (8*(ct.size-(s.k+(m+1)))+4) _ _ (by omega) ⟨_,s.lay ct zgp (m+1),⟨rfl,rfl,rfl,rfl⟩,hA'H.out,fun r h=>hE1.out r (by rw[hst.out,if_pos hpH.out,if_neg h2];exact h),rfl⟩
 case p3=>
  rintro n a wr ⟨s,z,hfr,hA,hE,hz,hkz,rfl⟩ K hK
  obtain ⟨u,rfl⟩:=hfr.out
  have hL:Hid (Calls Tryz.prog 162 #[.pointer (some ⟨C,0,none⟩),.agg #[.int .i64 9,.string ⟨#[]⟩,.string ⟨#[]⟩,.pointer none,.pointer none,.int .i64 0,.bool false,.bool false],.int .i64 (z:Nat)] wr fun e w'=>(∃ v,e = .returned v)∧At C ct w (s.lay ct zgp z) w'):=hid (zur zgp z hA hkz rfl rfl rfl)
  refine zg9 (zhw (fun a' w'=>cutJ C ct w s0 0 (8*(ct.size-(s.k+z))+4) a' w') (fun K2 hK2=>?_) (fun a' w' h'=>zld (hK.out 0 _ a' w' (by omega) h')))
  have hK2H:=hid hK2
  have hEH:=hid hE
  clear hK2 hK hfr hA hE
  generalize jumps K _=QQ
  go_wp2_with fail
  refine hL.out.mono ?_
  rintro e w' ⟨⟨v,rfl⟩,hA'⟩
  have hA'H:=hid hA'
  clear hA'
  go_wp2
  exact hK2H.out _ _ ⟨_,s.lay ct zgp z,⟨rfl,rfl,rfl,rfl⟩,hA'H.out,hEH.out,rfl⟩
 case p4=>
  rintro n a wr ⟨s,z,hfr,hA,hE,hz,hkz,rfl⟩ K hK
  obtain ⟨u,rfl⟩:=hfr.out
  obtain ⟨x3,x4,x5,hcc⟩:=hA.cells
  have q2:wr.cell? ⟨C,2,none⟩=some (.int .i64 (s.k:Nat)):=za0 hcc 2 _ rfl
  have qf:=za7 hcc
  have hAH:=hid hA
  have hEH:=hid hE
  have hsm:=hA.small
  clear hA hE hcc
  refine zg9 (zhw (fun a' w'=>cutJ C ct w s0 0 (8*(ct.size-(s.k+z))+4) a' w') (fun K2 hK2=>?_) (fun a' w' h'=>zld (hK.out 0 _ a' w' (by omega) h')))
  have hK2H:=hid hK2
  clear hK2 hK hfr
  generalize jumps K _=QQ
  go_wp2
  exact hK2H.out _ _ ⟨_,s.text z,⟨rfl,rfl,rfl,rfl⟩,hAH.out.text z hkz,hEH.out,rfl⟩
 case p5=>
  rintro n a wr ⟨s,z,hfr,hA,hE,hz,hkz,rfl⟩ K hK
  obtain ⟨u,rfl⟩:=hfr.out
  have hL:Hid (Calls Tryz.prog 162 #[.pointer (some ⟨C,0,none⟩),.agg #[.int .i64 10,.string ⟨#[]⟩,.string ⟨#[]⟩,.pointer none,.pointer none,.int .i64 0,.bool false,.bool false],.int .i64 (z:Nat)] wr fun e w'=>(∃ v,e = .returned v)∧At C ct w (s.lay ct zh1 z) w'):=hid (zur zh1 z hA hkz rfl rfl rfl)
  refine zg9 (zhw (fun a' w'=>cutJ C ct w s0 0 (8*(ct.size-(s.k+z))+4) a' w') (fun K2 hK2=>?_) (fun a' w' h'=>wp_goto (hK.out 0 _ a' w' (by omega) h')))
  have hK2H:=hid hK2
  have hEH:=hid hE
  clear hK2 hK hfr hA hE
  generalize jumps K _=QQ
  go_wp2_with fail
  refine hL.out.mono ?_
  rintro e w' ⟨⟨v,rfl⟩,hA'⟩
  have hA'H:=hid hA'
  clear hA'
  go_wp2
  exact hK2H.out _ _ ⟨_,s.lay ct zh1 z,⟨rfl,rfl,rfl,rfl⟩,hA'H.out,hEH.out,rfl⟩
mutual
def zqw (d:Nat):Pt→List Nd
 | .mk k i t kids _ _ _=>(⟨(d:Int),k,0,S.B i,S.B t⟩:Nd)::zc5 (d+1) kids
def zc5 (d:Nat):List Pt→List Nd
 | []=>[]
 | p::r=>zqw d p++zc5 d r
end
def ptNd (d:Nat) (p:Pt):Nd:=⟨(d:Int),p.kind,0,S.B p.info,S.B p.text⟩
theorem zyr (d:Nat) (p:Pt):zqw d p=ptNd d p::zc5 (d+1) p.kids:=by cases p;simp only[zqw];rfl
theorem zi0 (d:Nat) (a b:List Pt):zc5 d (a++b)=zc5 d a++zc5 d b:=by
 induction a with
 | nil=>simp[zc5]
 | cons p r ih=>simp only[List.cons_append,zc5,ih,List.append_assoc]
mutual
theorem zvs (d:Nat):∀ p:Pt,(zqw d p).length=cntP p
 | .mk k i t kids _ _ _=>by
  have:=zex (d+1) kids
  simp only[zqw,List.length_cons,cntP,this];show cntL kids+1=1+cntL kids;omega
theorem zex (d:Nat):∀ l:List Pt,(zc5 d l).length=cntL l
 | []=>by simp[zc5,cntP.cntL]
 | p::r=>by
  have h1:=zvs d p
  have h2:=zex d r
  simp only[zc5,List.length_append,h1,h2,zco]
end
set_option maxRecDepth 100000 in
set_option maxHeartbeats 8000000 in
theorem zl8 (N:Nat):∀ (ps:List Pt),cntL ps≤N→∀ (B:Nat) (A:Nat→Prop) (kf kl:Option Addr) (a:Option Addr) (cp:Nat) (l:List Nd) (depth:Nat) (w:World),B≤w.heap.size→zba B a cp l w→(l++zc5 depth ps).length≤1000000→depth+N≤1000000→KRep w A kf ps→(∀ x,A x→x<w.heap.size∧some x≠(Value.slice a l.length cp).ownBlock) →
  Calls Tryz.prog 83 #[.slice a l.length cp,.agg #[.pointer kf,.pointer kl],.int .i64 (depth:Nat)] w (Laid B (Value.slice a l.length cp).ownBlock (l++zc5 depth ps) w):=by
 induction N using Nat.strongRecOn with
 | _ N ih=>
 intro ps hN B A kf kl a cp l depth w hB hown hl hd hk hA
 obtain ⟨i0,hi,hz0,hz1,hz2⟩:=info_parts Tryz.zkk
 have hbA:Below w.heap.size w (w.alloc (.cells #[.pointer kf,.pointer kl] 135)):=(Below.refl _ _).alloc (Nat.le_refl _) _
 have hF:=hid (zlc w.heap.size 0 (.pointer kf) (w.alloc (.cells #[.pointer kf,.pointer kl] 135)) (za0 (za1 _ _) 0 _ rfl) ⟨_,rfl⟩)
 have hltB:=hid hown.lt
 have hstart:Hid (zba B a cp l (w.alloc (.cells #[.pointer kf,.pointer kl] 135))∧w.grownBy (w.alloc (.cells #[.pointer kf,.pointer kl] 135)) (Value.slice a l.length cp).ownBlock):=hid ⟨zba.below hown hbA,zg8 hbA _⟩
 have hkH:=hid hk
 have hAH:=hid hA
 have ihH:=hid ih
 have hlH:=hid hl
 have hNH:=hid hN
 clear hown hbA hk hA ih hl hN
 go_enter Tryz.func83,Tryz.ntmps83
 go_wp2_with fail
 refine hF.out.mono ?_
 rintro e w' ⟨rfl,rfl⟩
 go_wp2
 go_loopg [0,7] ps.length (fun k s0 s7 wr=>∃ (dn rs:List Pt) (a':Option Addr) (cp':Nat) (v:Option Addr) (n':Nat),s7 = .pointer v∧s0 = .slice a' n' cp'∧Hid (ps=dn++rs∧rs.length=k∧n'=(l++zc5 depth dn).length∧zba B a' cp' (l++zc5 depth dn) wr∧w.grownBy wr (Value.slice a l.length cp).ownBlock∧(∀ g,(Value.slice a' (l++zc5 depth dn).length cp').ownBlock=some g→(Value.slice a l.length cp).ownBlock=some g∨w.heap.size≤g)∧KRep w A v rs))
 case atStart=>
  refine ⟨[],ps,a,cp,kf,l.length,rfl,rfl,hid ⟨rfl,rfl,by simp[zc5],?_,hstart.out.2,?_,hkH.out⟩⟩
  ·simpa [zc5] using hstart.out.1
  ·intro g hg;left;simpa [zc5] using hg
 case round=>
  obtain ⟨dn,rs,a',cp',v,n',rfl,rfl,hrel'⟩:=hrel
  obtain ⟨hps,hrk,hn',hownr,hgr,hat0,hkr⟩:=hrel'.out
  clear hrel'
  cases hkr with
  | nil=>
   have hfin:Hid (Laid B (Value.slice a l.length cp).ownBlock (l++zc5 depth ps) w (.returned (.slice a' n' cp')) wr):=hid (by
    rw[List.append_nil] at hps;subst hps
    exact ⟨a',cp',by rw[hn'],hownr,hgr,hat0⟩)
   clear hps hrk hn' hownr hgr hat0
   go_wp2
   go_ret
   exact hfin.out
  | cons e ah be r ha hb hke hr=>
   have hem:=hAH.out e.m ha
   have hb':wr.heap[e.m]?=some (.cells (zd2 e ah be).toArray 179 (0,0)):=(hgr.block e.m hem.1 hem.2).trans hb
   have hml:e.m<wr.heap.size:=Nat.lt_of_lt_of_le hem.1 hgr.size
   obtain ⟨kd,hkd⟩:∃ x,e.p.kind=x:=⟨_,rfl⟩
   obtain ⟨inf,hinf⟩:∃ x,S.B e.p.info=x:=⟨_,rfl⟩
   obtain ⟨tx,htx⟩:∃ x,S.B e.p.text=x:=⟨_,rfl⟩
   obtain ⟨m,hm⟩:∃ m,e.m=m:=⟨_,rfl⟩
   obtain ⟨kf1,hkf1⟩:∃ x,e.kf=x:=⟨_,rfl⟩
   obtain ⟨kl1,hkl1⟩:∃ x,e.kl=x:=⟨_,rfl⟩
   obtain ⟨rz,hrz⟩:∃ x:Int,(e.p.rs:Int)=x:=⟨_,rfl⟩
   obtain ⟨ro,hro⟩:∃ x,e.p.ro=x:=⟨_,rfl⟩
   obtain ⟨rc,hrc⟩:∃ x,e.p.rc=x:=⟨_,rfl⟩
   have hnd:Hid (ptNd depth e.p=⟨(depth:Int),kd,0,inf,tx⟩):=hid (by unfold ptNd;rw[hkd,hinf,htx])
   have hcs:zd2 e ah be=[.int .i64 kd,.string inf,.string tx,.pointer kf1,.pointer kl1,.int .i64 rz,.bool ro,.bool rc,.pointer ah,.pointer be]:=by
    unfold zd2;rw[hkd,hinf,htx,hkf1,hkl1,hrz,hro,hrc]
   rw[hcs,hm] at hb'
   rw[hm] at hml
   have p0:wr.cell? ⟨m,0,none⟩=some (.int .i64 kd):=za0 hb' 0 _ rfl
   have p1:wr.cell? ⟨m,1,none⟩=some (.string inf):=za0 hb' 1 _ rfl
   have p2:wr.cell? ⟨m,2,none⟩=some (.string tx):=za0 hb' 2 _ rfl
   have p3:wr.cell? ⟨m,3,none⟩=some (.pointer kf1):=za0 hb' 3 _ rfl
   have p4:wr.cell? ⟨m,4,none⟩=some (.pointer kl1):=za0 hb' 4 _ rfl
   have p5:wr.cell? ⟨m,5,none⟩=some (.int .i64 rz):=za0 hb' 5 _ rfl
   have p6:wr.cell? ⟨m,6,none⟩=some (.bool ro):=za0 hb' 6 _ rfl
   have p7:wr.cell? ⟨m,7,none⟩=some (.bool rc):=za0 hb' 7 _ rfl
   have p9:Hid (wr.cell? ⟨m,9,none⟩=some (.pointer be)):=hid (za0 hb' 9 _ rfl)
   have hv:(some e.ad:Option Addr)=some ⟨m,0,none⟩:=by rw[Mem.ad,hm]
   obtain ⟨L,hL⟩:∃ L,L=l++zc5 depth dn:=⟨_,rfl⟩
   rw[← hL] at hn' hownr hat0
   subst hn'
   have hLn:L.length+1+cntL e.p.kids≤1000000:=by
    have:=hlH.out
    rw[hps,zi0,← List.append_assoc,← hL,List.length_append,zex,zco,zol] at this
    omega
   have hcK:cntL e.p.kids<N:=by
    have:=hNH.out
    rw[hps,zr1,zco,zol] at this
    omega
   have hownr2:=hid (fun o1 o2=>zba.alloc (zba.alloc hownr o1) o2)
   have hltr:=hid hownr.lt
   have hall:=hid (And.intro hps (And.intro hrk (And.intro hgr (And.intro hat0 (And.intro hke hr)))))
   have hLH:=hid hL
   have hkf1H:=hid hkf1
   have hmne:=hid hem
   have hmH:=hid hm
   have hb'H:=hid hb'
   have hBr:B≤wr.heap.size:=Nat.le_trans hB hgr.size
   have hbH:=hid hb
   have hZ:w.heap.size≤wr.heap.size:=hgr.size
   clear hps hrk hownr hgr hat0 hke hr hb hb' hem hcs hkd hinf htx hkl1 hrz hro hrc hkf1 hL hm
   rw[hv]
   clear hv
   have hnew:Hid (∀ X j u,(five ⟨(depth:Int),kd,0,inf,tx⟩)[j]?=some u→((wr.alloc X).alloc (.cells #[.int .i64 (depth:Int),.int .i64 kd,.int .i64 0,.string inf,.string tx] 36)).cell? ((⟨wr.heap.size+1,0,none⟩:Addr).add j)=some u):=hid (by
    intro X j u hj
    have hsz:(wr.alloc X).heap.size=wr.heap.size+1:=by simp
    have ha:(⟨wr.heap.size+1,0,none⟩:Addr).add j=⟨(wr.alloc X).heap.size,j,none⟩:=by
     rw[hsz];simp only[Addr.add];split
     ·rename_i h;simp <;> omega
     ·simp <;> omega
    rw[ha]
    exact za0 (za1 _ _) j u (by rw[← hj];simp[five]))
   have hone:Hid (∀ u∈five ⟨(depth:Int),kd,0,inf,tx⟩,u.oneCell'=true):=hid (by
    intro u hu;simp[five] at hu;rcases hu with rfl|rfl|rfl|rfl|rfl <;> rfl)
   go_wp2_with (at_builtin;refine wpList_append_lies _ (by rfl) _ _ 22 (by rfl) B 36 i0 (.agg #[.int .i64 0,.int .i64 0,.int .i64 0,.string ⟨#[]⟩,.string ⟨#[]⟩]) 5 56 Tryz.underlying22 hi hz0 hz1 hz2 (by rfl) (by omega) (.slice a' L.length cp') L.length (zao L) (by rfl) (hownr2.out _ _) ⟨wr.heap.size+1,0,none⟩ 1 1 (five ⟨(depth:Int),kd,0,inf,tx⟩) (by rfl) (by rfl) (hnew.out _) hone.out (by omega) (by unfold maxLen;omega) (by omega) (by simp;omega) (wr.heap.size+1+1) (by simp) ?_)
   intro g cap1 w3 hown3 hgrow hat hltg
   have hs3:=hgrow.size
   have hsz2:∀ o1 o2,((wr.alloc o1).alloc o2).heap.size=wr.heap.size+2:=by intro o1 o2;simp
   rw[hsz2] at hs3
   have hX:w3.heap[wr.heap.size]?=some (.cells #[.int .i64 kd,.string inf,.string tx,.pointer kf1,.pointer kl1,.int .i64 rz,.bool ro,.bool rc] 177 (0,0)):=by
    rw[hgrow.block wr.heap.size (by rw[hsz2];omega) (fun e=>by have:=hltr.out _ e.symm;omega),Below.heap_alloc _ _ _ (by simp)]
    exact za1 _ _
   have x3:w3.cell? ⟨wr.heap.size,3,none⟩=some (.pointer kf1):=za0 hX 3 _ rfl
   have x4:w3.cell? ⟨wr.heap.size,4,none⟩=some (.pointer kl1):=za0 hX 4 _ rfl
   have hg3:wr.grownBy w3 (Value.slice a' L.length cp').ownBlock:=zbs (zbs (World.grownBy_alloc _ _ _) (World.grownBy_alloc _ _ _) (fun g h=>.inl h)) hgrow (fun g h=>.inl h)
   obtain ⟨hps,hrk,hgr,hat0,hke,hr⟩:=hall.out
   have hgr3:w.grownBy w3 (Value.slice a l.length cp).ownBlock:=zbs hgr hg3 hat0
   have hat1:∀ g',(some g:Option Nat)=some g'→(Value.slice a l.length cp).ownBlock=some g'∨w.heap.size≤g':=fun g' h=>by
    have:g=g':=by simpa using h
    subst this
    rcases hat with h|h
    ·exact hat0 _ h
    ·exact .inr (by omega)
   have hA3:∀ x,A x→x<w3.heap.size∧some x≠(some g:Option Nat):=fun x hx=>⟨Nat.lt_of_lt_of_le (hAH.out x hx).1 hgr3.size,fun h=>by
    have:x=g:=by simpa using h
    subst this
    rcases hat1 x rfl with h|h
    ·exact (hAH.out x hx).2 h.symm
    ·have:=(hAH.out x hx).1;omega⟩
   have hk3:KRep w3 A kf1 e.p.kids:=by
    rw[← hkf1H.out]
    exact hke.move (fun x hx=>hx) (fun x hx=>hgr3.block x (hAH.out x hx).1 (hAH.out x hx).2)
   have hown4:zba B (some ⟨g,0,none⟩) cap1 (L++[ptNd depth e.p]) w3:=by
    unfold zba;rw[zgq,List.length_append,hnd.out];exact hown3
   have hIH:=ihH.out (cntL e.p.kids) hcK e.p.kids (Nat.le_refl _) B A kf1 kl1 (some ⟨g,0,none⟩) cap1 (L++[ptNd depth e.p]) (depth+1) w3 (by omega) hown4 (by rw[List.length_append,List.length_append,zex];simp only[List.length_singleton];omega) (by omega) hk3 (fun x hx=>hA3 x hx)
   rw[show (L++[ptNd depth e.p]).length=L.length+1 by simp,show ((depth+1:Nat):Int)=(depth:Int)+1 by omega] at hIH
   have hIHH:=hid hIH
   have hm3:w3.heap[m]?=some (.cells [.int .i64 kd,.string inf,.string tx,.pointer kf1,.pointer kl1,.int .i64 rz,.bool ro,.bool rc,.pointer ah,.pointer be].toArray 179 (0,0)):=by
    rw[← hb'H.out,← hmH.out,hgr3.block _ hmne.out.1 hmne.out.2,hgr.block _ hmne.out.1 hmne.out.2]
   have hmg:m<w3.heap.size∧some m≠(some g:Option Nat):=by rw[← hmH.out];exact hA3 _ ha
   have hm3H:=hid hm3
   have hLe:Hid ((L++[ptNd depth e.p])++zc5 (depth+1) e.p.kids=l++zc5 depth (dn++[e.p])):=hid (by
    rw[zi0,hLH.out]
    simp only[zc5,zyr,List.append_nil,List.append_assoc,List.cons_append,List.nil_append])
   have hall2:=hid (And.intro hgr3 hat1)
   have hlen4:Hid (((L++[ptNd depth e.p])++zc5 (depth+1) e.p.kids).length=L.length+1+cntL e.p.kids):=hid (by rw[List.length_append,List.length_append,zex];rfl)
   clear hown3 hgrow hat hltg hX hs3 hsz2 hg3 hps hrk hgr hat0 hke hr hgr3 hat1 hA3 hk3 hown4 hIH hm3
   go_wp2_with fail
   refine hIHH.out.mono ?_
   rintro e4 w4 ⟨a4,cp4,rfl,hown4,hg4,hat4⟩
   rw[hlen4.out]
   have hm4:w4.heap[m]?=w3.heap[m]?:=hg4.block m hmg.1 hmg.2
   have hBh:=hid (zj6 m (.pointer be) w4 (za0 (hm4.trans hm3H.out) 9 _ rfl) ⟨_,rfl⟩)
   have hrel4:Hid (zba B a4 cp4 (l++zc5 depth (dn++[e.p])) w4∧w.grownBy w4 (Value.slice a l.length cp).ownBlock∧(∀ g',(Value.slice a4 (l++zc5 depth (dn++[e.p])).length cp4).ownBlock=some g'→(Value.slice a l.length cp).ownBlock=some g'∨w.heap.size≤g')):=hid (by
    rw[← hLe.out]
    refine ⟨hown4,zbs hall2.out.1 hg4 (fun g' h=>hall2.out.2 g' (by simpa [Value.ownBlock] using h)),fun g' h=>?_⟩
    rcases hat4 g' h with h|h
    ·exact hall2.out.2 g' (by simpa [Value.ownBlock] using h)
    ·exact .inr (Nat.le_trans hall2.out.1.size h))
   clear hown4 hg4 hat4 hm4
   go_wp2_with fail
   refine hBh.out.mono ?_
   rintro e5 w5 ⟨rfl,rfl⟩
   go_wp2
   go_roundg r.length
   case rel=>
    refine ⟨dn++[e.p],r,a4,cp4,be,_,rfl,rfl,hid ⟨by rw[hall.out.1];simp,rfl,?_,hrel4.out.1,hrel4.out.2.1,hrel4.out.2.2,hall.out.2.2.2.2.2⟩⟩
    rw[← hLe.out,hlen4.out]
   case measure=>
    have:=hall.out.2.1
    simp at this;omega
def Tag (w:World) (x:Nat):Prop:=∃ cs:Array Value,w.heap[x]?=some (.cells cs 179 (0,0))
theorem KRep.tag {w:World} {A:Nat→Prop} {a:Option Addr} {ps:List Pt} (h:KRep w A a ps):KRep w (Tag w) a ps:=by
 induction h with
 | nil=>exact .nil
 | cons e ah be r ha hb hk hr ih1 ih2=>exact .cons e ah be r ⟨_,hb⟩ hb ih1 ih2
theorem Tag.lt {w:World} {x:Nat} (h:Tag w x):x<w.heap.size:=by
 obtain ⟨cs,h⟩:=h
 exact (Array.getElem?_eq_some_iff.1 h).1
theorem Tag.ne {w:World} {x y T:Nat} {cs:Array Value} (h:Tag w x) (hy:w.heap[y]?=some (.cells cs T (0,0))) (hT:T≠179):x≠y:=by
 rintro rfl
 obtain ⟨cs',h⟩:=h
 rw[h] at hy
 simp only[Option.some.injEq,Obj.cells.injEq] at hy
 exact hT hy.2.1.symm
theorem KRep.retag {w w':World} {a:Option Addr} {ps:List Pt} (h:KRep w (Tag w) a ps) (hw:∀ x,Tag w x→w'.heap[x]?=w.heap[x]?):KRep w' (Tag w') a ps:=
 (h.move (fun _ hx=>hx) hw).tag
theorem zxv (C:Nat) (ct:ByteArray) (w:World) (hs:ct.size≤1000000) (hx:w.heap[C]?=some (.cells #[.string ct,.int .i64 0,.int .i64 0,.pointer none,.pointer none,.slice none 0 0] 168 (0,0))) (henv:Env w) (hE:EnvC C):At C ct w zfq w:=by
 refine ⟨⟨[],none,0,fun _=>False,?_,rfl⟩,Below.refl _ _,henv,hE,Nat.zero_le _⟩
 refine ⟨⟨trivial,⟨hx,by show 3+1<6;omega⟩,List.nodup_nil,by simp[blks]⟩,fun e he=>by simp at he,fun _ hx=>hx.elim,World.ownsRow_nil _ _ _ _,fun x hx=>by simp[blks] at hx,fun x hx=>by simp[blks] at hx,fun x hx=>by simp[zfq] at hx,List.Pairwise.nil,Nat.le_refl _,Nat.zero_le _,hs,Nat.le_refl _,fun x hx=>by simp at hx⟩
set_option maxRecDepth 100000 in
set_option maxHeartbeats 4000000 in
theorem zua (ct:ByteArray) (w:World) (hs:ct.size≤1000000) (henv:Env w) :
  Calls Tryz.prog 80 #[.string ct] w fun e w'=>
   ∃ kf kl,e = .returned (.agg #[.pointer kf,.pointer kl])∧KRep w' (Tag w') kf (zi9 ct.data.toList)∧Below w.heap.size w w':=by
 obtain ⟨w2,hw2⟩:∃ w2,w2=(w.alloc (.cells #[.pointer none,.pointer none] 135)).alloc (.cells #[.string ct,.int .i64 0,.int .i64 0,.pointer none,.pointer none,.slice none 0 0] 168):=⟨_,rfl⟩
 have hs1:(w.alloc (.cells #[.pointer none,.pointer none] 135)).heap.size=w.heap.size+1:=by simp
 have hs2:w2.heap.size=w.heap.size+2:=by rw[hw2];simp
 have hC:w2.heap[w.heap.size+1]?=some (.cells #[.string ct,.int .i64 0,.int .i64 0,.pointer none,.pointer none,.slice none 0 0] 168 (0,0)):=by rw[hw2,← hs1];exact za1 _ _
 have hR:w2.heap[w.heap.size]?=some (.cells #[.pointer none,.pointer none] 135 (0,0)):=by rw[hw2,Below.heap_alloc _ _ _ (by simp)];exact za1 _ _
 have hb2:Below w.heap.size w w2:=by rw[hw2];exact ((Below.refl _ _).alloc (Nat.le_refl _) _).alloc (by simp) _
 have hK:=hid (zzs (w.heap.size+1) ct zfq w2 (zxv _ ct w2 hs hC (henv.below hb2) ⟨Nat.lt_succ_of_lt henv.2.2.1,Nat.lt_succ_of_lt henv.2.2.2⟩))
 have hRH:=hid hR
 have hb2H:=hid hb2
 have hw2H:=hid hw2
 clear hC hR hb2 hs1 hs2 hw2 henv
 go_enter Tryz.func80,Tryz.ntmps80
 go_wp2_with fail
 rw[← hw2H.out]
 refine hK.out.mono ?_
 rintro e w3 ⟨rfl,s,hA,hE⟩
 obtain ⟨ms,sa,sc,A,hcut,hmp⟩:=hA.cut
 have hab:=hcut.above
 have hSt:=hid (zj5 (w.heap.size+1) 3 168 _ ms A w3 hcut.ch hcut.kids (fun x hx=>⟨(hcut.dead x hx).1,(hcut.dead x hx).2.1⟩) (by have:=hcut.bytes;have:=hcut.fk;have:=hcut.kl;have:=hcut.small;omega) hcut.runs)
 have hcutH:=hid hcut
 have hAH:=hid hA
 have hE':Hid (zi9 ct.data.toList=zd7 (ms.map Mem.p)):=hid (by
  rw[hmp];exact zkb _ _ (by rw[S.zbq];exact hE))
 have habH:=hid hab
 clear hA hE hcut hmp hab
 go_wp2_with fail
 refine hSt.out.mono ?_
 rintro e w4 ⟨l',A',rfl,hS⟩
 have hb3:Below (w.heap.size+1) w2 w3:=hAH.out.below
 have hb4:Below (w.heap.size+1) w3 w4:=hS.fr.below (by have:=hcutH.out.lt;omega) (fun x hx=>by
  rcases List.mem_cons.1 hx with rfl|hx
  ·exact Nat.le_refl _
  ·exact Nat.le_of_lt (habH.out x hx))
 have hR4:=(hb4.block w.heap.size (by omega)).trans ((hb3.block w.heap.size (by omega)).trans hRH.out)
 have hC4:=hS.ch.hdr.1
 obtain ⟨f1,hf1⟩:∃ f1,hd l' none=f1:=⟨_,rfl⟩
 obtain ⟨l1,hl1⟩:∃ l1,lst l' none=l1:=⟨_,rfl⟩
 rw[hf1,hl1] at hC4
 have p3:w4.cell? ⟨w.heap.size+1,3,none⟩=some (.pointer f1):=za0 hC4 3 _ rfl
 have p4:w4.cell? ⟨w.heap.size+1,4,none⟩=some (.pointer l1):=za0 hC4 4 _ rfl
 have r0:w4.cell? ⟨w.heap.size,0,none⟩=some (.pointer none):=za0 hR4 0 _ rfl
 have r1:w4.cell? ⟨w.heap.size,1,none⟩=some (.pointer none):=za0 hR4 1 _ rfl
 have g:=za7 hR4
 have hR4H:=hid hR4
 have hbb:Hid (Below w.heap.size w w4):=hid (hb2H.out.trans ((hb3.mono (Nat.le_succ _)).trans (hb4.mono (Nat.le_succ _))))
 have hz3:Hid (w.heap.size+1<w3.heap.size):=hid (by have:=hcutH.out.lt;omega)
 have hKR:Hid (KRep w4 (fun x=>A' x∨x∈blks l') f1 (zi9 ct.data.toList)):=hid (by
  rw[hE'.out,← hS.part,← hf1]
  exact zhy hS.ch.seg (fun e he=>.inr (List.mem_map.2 ⟨e,he,rfl⟩)) (fun e he=>(hS.kids e he).move (fun x hx=>.inl hx) (fun _ _=>rfl)))
 have hfl:Hid (∀ w5:World,(∀ x,x≠w.heap.size→w5.heap[x]?=w4.heap[x]?)→KRep w5 (Tag w5) f1 (zi9 ct.data.toList)):=hid (fun w5 h5=>
  hKR.out.tag.retag (fun x hx=>h5 x (hx.ne hR4H.out (by decide))))
 clear hb3 hb4 hR4 hC4 hS hf1 hl1
 go_wp2
 have z:=za3 (za3 (cs:=[.pointer none,.pointer none]) hR4H.out 0 (.pointer f1)) 1 (.pointer l1)
 have z0:=za0 z 0 _ rfl
 have z1:=za0 z 1 _ rfl
 refine bodyPost_ret (v:=.agg #[.pointer f1,.pointer l1]) (by simp[results,Tryz.results80,go_sem,z0,z1]) rfl ⟨f1,l1,rfl,hfl.out _ (fun x hx=>?_),?_⟩
 ·rw[Below.heap_setCell _ _ _ _ hx,Below.heap_setCell _ _ _ _ hx]
 ·exact Below.setCell (Below.setCell hbb.out (by simp) _) (by simp) _
noncomputable def zh0 (c:List UInt8) (d:Nat):List Nd:=zc5 d (zi9 c)
theorem zvr (c:List UInt8) (d:Nat):(zh0 c d).length≤3*c.length:=by
 unfold zh0;rw[zex];exact zpl c
set_option maxHeartbeats 4000000 in
theorem zt7 (c:List UInt8) (hc:c.length≤300000) (B:Nat) (k li:Int) (la:Option Addr) (lz lc:Nat) (n:Int) (info:ByteArray) (loose:Bool) (ka:Option Addr) (kn kc:Nat) (depth:Nat) (a:Option Addr) (cp:Nat) (l:List Nd) (w:World) (henv:Env w) (hk:k=1∨k=2) (hB:B≤w.heap.size) (hown:zba B a cp l w) (hl:(l++zh0 c depth).length≤1000000) (hd:depth≤90000) :
  Calls Tryz.prog 63 #[.slice a l.length cp,.agg #[.int .i64 k,.int .i64 li,.slice la lz lc,.int .i64 n,.string info,.string (S.B c),.bool loose,.slice ka kn kc],.int .i64 (depth:Nat)] w (Laid B (Value.slice a l.length cp).ownBlock (l++zh0 c depth) w):=by
 have hbx:∀ o,Below w.heap.size w (w.alloc o):=fun o=>(Below.refl _ _).alloc (Nat.le_refl _) _
 have hW:=hid (fun o=>zua (S.B c) (w.alloc o) (by rw[S.zbc];omega) (henv.alloc o))
 rw[S.zcn] at hW
 have hcn:=zpl c
 have hP:Hid (∀ o kf kl w3,KRep w3 (Tag w3) kf (zi9 c)→Below (w.alloc o).heap.size (w.alloc o) w3→Calls Tryz.prog 83 #[.slice a l.length cp,.agg #[.pointer kf,.pointer kl],.int .i64 (depth:Nat)] w3 (Laid B (Value.slice a l.length cp).ownBlock (l++zh0 c depth) w)):=hid (by
  intro o kf kl w3 h3 h4
  have hs:(w.alloc o).heap.size=w.heap.size+1:=by simp
  have hb:Below w.heap.size w w3:=(hbx o).trans (h4.mono (by omega))
  have hlt:=hown.lt
  have hown3:=hown.below hb
  refine (zl8 (3*c.length) (zi9 c) hcn B (Tag w3) kf kl a cp l depth w3 (by have:=hb.size;omega) hown3 hl (by omega) h3 (fun x hx=>⟨hx.lt,fun e=>?_⟩)).mono ?_
  ·rcases hown3.2 with h2|⟨g,cap,cur,hv,hg,hh,_⟩
   ·rw[h2.1] at e;simp[Value.ownBlock] at e
   ·have hgo:(Value.slice a l.length cp).ownBlock=some g:=by rw[hv];rfl
    rw[hgo] at e
    exact hx.ne hh (by decide) (by simpa using e)
  ·rintro e w' ⟨a',cp',h5,h6,h7,h8⟩
   exact ⟨a',cp',h5,h6,zbs (zg8 hb _) h7 (fun g h=>.inl h),fun g hg=>(h8 g hg).imp id (fun h=>Nat.le_trans hb.size h)⟩)
 have hlen:Hid ((l++zh0 c depth).length=(l++zh0 c depth).length):=hid rfl
 clear hbx hown henv hcn hl
 obtain ⟨L,hL⟩:∃ L,L=l++zh0 c depth:=⟨_,rfl⟩
 rw[← hL] at hP ⊢
 clear hL hlen
 rcases hk with rfl|rfl
 ·go_enter Tryz.func63,Tryz.ntmps63
  go_wp2_with fail
  refine (hW.out _).mono ?_
  rintro e w3 ⟨kf,kl,rfl,hM,hb3⟩
  have hPP:=hid (hP.out _ kf kl w3 hM hb3)
  clear hM hb3
  go_wp2_with fail
  refine hPP.out.mono ?_
  rintro e w' ⟨a',cp',rfl,h6,h7,h8⟩
  have h6H:=hid h6
  have h7H:=hid h7
  have h8H:=hid h8
  clear h6 h7 h8
  go_wp2
  go_ret
  exact ⟨a',cp',rfl,h6H.out,h7H.out,h8H.out⟩
 ·go_enter Tryz.func63,Tryz.ntmps63
  go_wp2_with fail
  refine (hW.out _).mono ?_
  rintro e w3 ⟨kf,kl,rfl,hM,hb3⟩
  have hPP:=hid (hP.out _ kf kl w3 hM hb3)
  clear hM hb3
  go_wp2_with fail
  refine hPP.out.mono ?_
  rintro e w' ⟨a',cp',rfl,h6,h7,h8⟩
  have h6H:=hid h6
  have h7H:=hid h7
  have h8H:=hid h8
  clear h6 h7 h8
  go_wp2
  go_ret
  exact ⟨a',cp',rfl,h6H.out,h7H.out,h8H.out⟩
def isC (c:List UInt8):Prop:=c.length≤300000
theorem zto (c:List UInt8) (h:isC c):zt5 c (zh0 c):=
 fun B k li la lz lc n info loose ka kn kc depth a cp l w henv hk hB hown hl hd=>zt7 c h B k li la lz lc n info loose ka kn kc depth a cp l w henv hk hB hown hl hd
namespace S
theorem zl9 (l:List UInt8):bytes (lines l)≤l.length:=by
 unfold lines
 split
 ·simp[bytes]
 ·have h1:∀ l:List UInt8,bytes (nl l)≤l.length:=by
   intro l
   induction l with
   | nil=>simp[nl,bytes]
   | cons c r ih=>
    unfold nl
    split
    ·simp only[bytes,List.map_cons,List.sum_cons,List.length_nil,List.length_cons] at *;omega
    ·split <;> simp_all [bytes] <;> omega
  obtain ⟨t,ht⟩:=zhf l
  have h2:=congrArg List.length ht
  rw[List.length_append] at h2
  have:=h1 (Lib.trimSuffix l [10])
  omega
end S
namespace S
def tt (r:List (List UInt8)):Nat:=bytes r+r.length
theorem zwl:tt []=0:=rfl
theorem zd4 (x:List UInt8) (r:List (List UInt8)):tt (x::r)=x.length+1+tt r:=by simp only[tt,bytes,List.map_cons,List.sum_cons,List.length_cons];omega
theorem zov (a b:List (List UInt8)):tt (a++b)=tt a+tt b:=by
 induction a with
 | nil=>simp[zwl]
 | cons x r ih=>rw[List.cons_append,zd4,zd4,ih];omega
theorem zha (r:List (List UInt8)) (n:Nat):tt (r.take n)+tt (r.drop n)=tt r:=by rw[← zov,List.take_append_drop]
theorem zh8 (r:List (List UInt8)) (n:Nat):tt (r.take n)≤tt r:=by have:=zha r n;omega
theorem zgn (r:List (List UInt8)) (m n:Nat) (h:m≤n):tt (r.take m)≤tt (r.take n):=by
 have:=zh8 (r.take n) m
 rwa [List.take_take,Nat.min_eq_left h] at this
theorem zrx (r:List (List UInt8)) (a b:Nat):tt (r.take (a+b))=tt (r.take a)+tt ((r.drop a).take b):=by
 rw[List.take_add,zov]
mutual
def wtB:Blk→Nat
 | .at_ _ k _ _ t _ kids=>1+(if k=1∨k=2 then 3*t.length else 0)+wtL kids
def wtL:List Blk→Nat
 | []=>0
 | b::r=>wtB b+wtL r
end
theorem zsu (row:List (List UInt8)):tt (zad row)≤tt (row.take (zad row).length):=by
 induction row with
 | nil=>simp[zad]
 | cons x r ih=>
  simp only[zad]
  split
  ·rename_i h
   have:=zga x h
   rw[List.length_cons,List.take_succ_cons,zd4,zd4];omega
  ·simp[zwl]
theorem zrl (x:List UInt8) (r:List (List UInt8)) (h:zar x=true):tt (zad (x::r))+1≤tt ((x::r).take (zad (x::r)).length):=by
 have h1:=zsu r
 have h2:=zga x h
 simp only[zad,if_pos h]
 rw[List.length_cons,List.take_succ_cons,zd4,zd4];omega
theorem zqv (m:Nat) (r:List (List UInt8)):tt (r.map (fun l=>l.drop m))≤tt r:=by
 induction r with
 | nil=>simp
 | cons x r ih=>rw[List.map_cons,zd4,zd4,List.length_drop];omega
theorem zuq (l:List UInt8) (r:List (List UInt8)) (h:(item l).ok=true):tt (zae (item l) (l::r))+1≤tt ((l::r).take (zae (item l) (l::r)).length):=by
 obtain ⟨h1,h2⟩:=zru l h
 unfold zae;split
 ·rw[List.length_singleton,List.take_succ_cons,List.take_zero,zd4,zd4,zwl]
  simp only[List.length_nil];omega
 ·obtain ⟨n,hn⟩:∃ n,zay (item l).zaa (l::r)=n+1:=⟨zay (item l).zaa (l::r)-1,by have:=zdb (item l).zaa (l::r);omega⟩
  rw[hn,List.take_succ_cons,List.map_cons,List.length_cons,List.length_map,List.take_succ_cons,zd4,zd4,List.length_drop]
  have h3:=zqv (item l).zaa (r.take n)
  have h4:r.take (r.take n).length=r.take n:=by rw[List.length_take,← List.take_take,List.take_length]
  rw[h4];omega
theorem z00 (sub:List (List UInt8)→List Blk × Bool) (hs:∀ x,wtL (sub x).1≤10*tt x) (kind:UInt8) (Z f:Nat) (l:List UInt8) (r:List (List UInt8)) (hok:(item l).ok=true) :
  wtL (zam sub kind Z f (item l) (l::r)).1+9*min f 1≤10*tt ((l::r).take (zam sub kind Z f (item l) (l::r)).2.2):=by
 induction f generalizing l r with
 | zero=>simp[zam,wtL]
 | succ f ih=>
  have hi:=zuq l r hok
  have hw:=hs (zae (item l) (l::r))
  rw[zda]
  obtain ⟨a,ha⟩:∃ a,(zae (item l) (l::r)).length=a:=⟨_,rfl⟩
  obtain ⟨g,hg⟩:∃ g,za5 ((l::r).drop a)=g:=⟨_,rfl⟩
  rw[ha] at hi ⊢
  rw[hg]
  have hm:min (f+1) 1=1:=by omega
  rw[hm]
  by_cases hn:(zas kind ((l::r).drop (a+g))).ok=true
  ·rw[if_pos hn]
   cases hd:(l::r).drop (a+g) with
   | nil=>rw[hd] at hn;simp[zas] at hn
   | cons l2 r2=>
    rw[hd] at hn
    have hy:=zf7 kind l2 r2 hn
    have:=ih l2 r2 hy.2.2
    rw[hy.1]
    have e:=zrx (l::r) (a+g) (zam sub kind Z f (item l2) (l2::r2)).2.2
    rw[hd] at e
    have e2:=zgn (l::r) a (a+g) (by omega)
    show 1+0+wtL (sub (zae (item l) (l::r))).1+wtL (zam sub kind Z f (item l2) (l2::r2)).1+9*1≤10*tt ((l::r).take (a+g+(zam sub kind Z f (item l2) (l2::r2)).2.2))
    rw[e];omega
  ·rw[if_neg hn]
   show 1+0+wtL (sub (zae (item l) (l::r))).1+0+9*1≤10*tt ((l::r).take a)
   omega
theorem zq1 (r:List (List UInt8)):(zak r).length≤tt r:=by
 induction r with
 | nil=>simp[zak]
 | cons x r ih=>
  cases r with
  | nil=>rw[zd4];simp only[zak,List.length_drop];omega
  | cons y r=>rw[zd4];simp only[zak,List.length_append,List.length_drop,List.length_cons] at *;omega
theorem zey (l:List UInt8):(zaj l).length≤l.length:=by
 have h1:=zni l
 have h2:(zaz l).length≤(shallow l).length:=by
  unfold zaz
  have:=zik ((shallow l).drop (cnt 35 (shallow l))) 32
  rw[List.length_drop] at this;omega
 unfold zaj
 split
 ·have h3:=zci (zaz l) 35
  have h4:=zci (Lib.trimRightB (zaz l) 35) 32
  omega
 ·omega
theorem zns (row:List (List UInt8)):(za8 row).1.text.length≤tt (row.take (za8 row).2)∧(za8 row).1.kids=[]:=by
 unfold za8
 dsimp only
 have h1:=zci (zak (row.take (zc4 row.tail+1))) 32
 have h2:=zq1 (row.take (zc4 row.tail+1))
 split
 ·exact ⟨by show (Lib.trimRightB _ _).length≤tt (row.take (zc4 row.tail+1));omega,rfl⟩
 ·split
  ·have h3:=zgn row (zc4 row.tail+1) (zc4 row.tail+1+1) (by omega)
   exact ⟨by show (Lib.trimRightB _ _).length≤tt (row.take (zc4 row.tail+1+1));omega,rfl⟩
  ·exact ⟨by show (Lib.trimRightB _ _).length≤tt (row.take (zc4 row.tail+1));omega,rfl⟩
theorem z0m (b:Blk):wtB b=1+(if b.kind=1∨b.kind=2 then 3*b.text.length else 0)+wtL b.kids:=by cases b;simp only[wtB];rfl
theorem z05 (z:Int) (b:Blk):wtB (b.put z)=wtB b:=by cases b;simp only[Blk.put,wtB]
theorem zz9 (b:Blk):wtB b≤1+3*b.text.length+wtL b.kids:=by rw[z0m];split <;> omega
theorem zse (x:List UInt8) (r:List (List UInt8)) (n:Nat) (h:1≤n):x.length+1≤tt ((x::r).take n):=by
 obtain ⟨m,rfl⟩:∃ m,n=m+1:=⟨n-1,by omega⟩
 rw[List.take_succ_cons,zd4];omega
theorem zyw (sub:List (List UInt8)→List Blk × Bool) (hs:∀ x,wtL (sub x).1≤10*tt x) (x:List UInt8) (r:List (List UInt8)) :
  wtB (zah sub (x::r)).1≤10*tt ((x::r).take (zah sub (x::r)).2):=by
 have hz:=zfc sub x r
 have h0:=zse x r _ hz.1
 clear hz
 obtain ⟨v,hv⟩:∃ v,zah sub (x::r)=v:=⟨_,rfl⟩
 rw[hv] at h0 ⊢
 unfold zah at hv
 dsimp only at hv
 split at hv
 ·subst hv
  refine Nat.le_trans (?_:_≤1) (by omega)
  show wtB (.mk 3 0 [] _ false [])≤1
  simp[wtB,wtL]
 split at hv
 ·subst hv
  refine Nat.le_trans (?_:_≤1) (by omega)
  simp[wtB,wtL]
 split at hv
 ·subst hv
  have:=zey x
  refine Nat.le_trans (zz9 _) ?_
  show 1+3*(zaj x).length+0≤_
  omega
 split at hv
 ·subst hv
  refine Nat.le_trans (?_:_≤1) (by omega)
  show wtB (.mk 3 0 _ _ false [])≤1
  simp[wtB,wtL]
 split at hv
 ·rename_i h5
  subst hv
  have hq:=zrl x r h5
  have hw:=hs (zad (x::r))
  show wtB (.mk 5 0 [] [] false (sub (zad (x::r))).1)≤10*tt ((x::r).take (zad (x::r)).length)
  refine Nat.le_trans (?_:_≤1+wtL (sub (zad (x::r))).1) (by omega)
  simp[wtB]
 split at hv
 ·rename_i h6
  subst hv
  rw[zf0]
  have hl:=z00 sub hs (item x).kind (x::r).length (x::r).length x r h6
  rw[show min (x::r).length 1=1 by simp] at hl
  show wtB (.mk 6 _ [] [] _ (zam sub (item x).kind (x::r).length (x::r).length (item x) (x::r)).1)≤10*tt ((x::r).take (zam sub (item x).kind (x::r).length (x::r).length (item x) (x::r)).2.2)
  refine Nat.le_trans (?_:_≤1+wtL (zam sub (item x).kind (x::r).length (x::r).length (item x) (x::r)).1) (by omega)
  simp[wtB]
 ·subst hv
  have hp:=zns (x::r)
  refine Nat.le_trans (zz9 _) ?_
  rw[hp.2]
  show 1+3*_+0≤_
  omega
theorem zu3 (sub:List (List UInt8)→List Blk × Bool) (hs:∀ x,wtL (sub x).1≤10*tt x) (Z f:Nat) (row:List (List UInt8)):wtL (rowFrom sub Z f row).1≤10*tt row:=by
 induction f generalizing row with
 | zero=>simp[rowFrom,wtL]
 | succ f ih=>
  cases row with
  | nil=>rw[zeb];simp[wtL]
  | cons x r=>
   rw[zek _ _ _ _ (by simp)]
   have h1:=zyw sub hs x r
   obtain ⟨z,hz⟩:∃ z,(zah sub (x::r)).2=z:=⟨_,rfl⟩
   rw[hz] at h1 ⊢
   have h2:=ih ((x::r).drop (z+za5 ((x::r).drop z)))
   have h3:=zha (x::r) (z+za5 ((x::r).drop z))
   have h4:=zgn (x::r) z (z+za5 ((x::r).drop z)) (by omega)
   show wtB ((zah sub (x::r)).1.put _)+wtL _≤_
   rw[z05]
   omega
theorem zmq (d:Nat) (row:List (List UInt8)):wtL (za2 d row).1≤10*tt row:=by
 induction d generalizing row with
 | zero=>simp[za2,wtL]
 | succ d ih=>
  rw[show za2 (d+1) row=rowFrom (za2 d) row.length row.length (row.drop (za5 row)) from rfl]
  have h1:=zu3 (za2 d) ih row.length row.length (row.drop (za5 row))
  have h2:=zha row (za5 row)
  omega
end S
mutual
theorem zuz (d:Nat):∀ b:S.Blk,(zls zh0 d b).length≤S.wtB b
 | .at_ z k n i t lo kids=>by
  have h1:=zoj (d+1) kids
  have h2:=zvr t (d+1)
  simp only[zls,S.wtB,List.length_cons,List.length_append]
  split
  ·omega
  ·simp only[List.length_nil];omega
theorem zoj (d:Nat):∀ l:List S.Blk,(zcg zh0 d l).length≤S.wtL l
 | []=>by simp[zcg,S.wtL]
 | b::r=>by
  have h1:=zuz d b
  have h2:=zoj d r
  simp only[zcg,S.wtL,List.length_append];omega
end
theorem zuu (sub:List (List UInt8)→List S.Blk × Bool) (d:Nat) (hd:d+1≤90000) (hs:∀ x,S.tt x≤300000→zel isC (d+2) (sub x).1) (kind:UInt8) (Z f:Nat) (l:List UInt8) (r:List (List UInt8)) (hok:(S.item l).ok=true) (ht:S.tt (l::r)≤300000) :
  zel isC (d+1) (S.zam sub kind Z f (S.item l) (l::r)).1:=by
 induction f generalizing l r with
 | zero=>simpa [S.zam,zel] using hd
 | succ f ih=>
  have hi:=S.zuq l r hok
  have hi2:=S.zh8 (l::r) (S.zae (S.item l) (l::r)).length
  have hg:=hs (S.zae (S.item l) (l::r)) (by omega)
  rw[S.zda]
  obtain ⟨k,hk⟩:∃ k,(S.zae (S.item l) (l::r)).length+S.za5 ((l::r).drop (S.zae (S.item l) (l::r)).length)=k:=⟨_,rfl⟩
  rw[hk]
  by_cases hn:(S.zas kind ((l::r).drop k)).ok=true
  ·rw[if_pos hn]
   cases hdr:(l::r).drop k with
   | nil=>rw[hdr] at hn;simp[S.zas] at hn
   | cons l2 r2=>
    rw[hdr] at hn
    have hy:=S.zf7 kind l2 r2 hn
    have hsp:=S.zha (l::r) k
    rw[hdr] at hsp
    have:=ih l2 r2 hy.2.2 (by omega)
    rw[hy.1]
    simp only[zel,zob]
    exact ⟨⟨fun h=>by omega,hg⟩,this⟩
  ·rw[if_neg hn]
   simp only[zel,zob]
   exact ⟨⟨fun h=>by omega,hg⟩,hd⟩
theorem ztq (sub:List (List UInt8)→List S.Blk × Bool) (d:Nat) (hd:d+1≤90000) (hs:∀ x,S.tt x≤300000→zel isC (d+1) (sub x).1) (hs2:∀ x,S.tt x≤300000→zel isC (d+2) (sub x).1) (x:List UInt8) (r:List (List UInt8)) (ht:S.tt (x::r)≤300000) :
  zob isC d (S.zah sub (x::r)).1:=by
 have hnil:zel isC (d+1) []:=by simpa [zel] using hd
 unfold S.zah
 dsimp only
 split
 ·exact ⟨fun h=>by have h:(3:Int)=1∨(3:Int)=2:=h;omega,hnil⟩
 split
 ·exact ⟨fun h=>by have h:(4:Int)=1∨(4:Int)=2:=h;omega,hnil⟩
 split
 ·refine ⟨fun _=>?_,hnil⟩
  have h1:=S.zey x
  rw[S.zd4] at ht
  show (S.zaj x).length≤300000
  omega
 split
 ·exact ⟨fun h=>by have h:(3:Int)=1∨(3:Int)=2:=h;omega,hnil⟩
 split
 ·have h1:=S.zsu (x::r)
  have h2:=S.zh8 (x::r) (S.zad (x::r)).length
  exact ⟨fun h=>by have h:(5:Int)=1∨(5:Int)=2:=h;omega,hs _ (by omega)⟩
 split
 ·rename_i h6
  rw[S.zf0]
  exact ⟨fun h=>by have h:(6:Int)=1∨(6:Int)=2:=h;omega,zuu sub d hd hs2 _ _ _ x r h6 ht⟩
 ·have hp:=S.zns (x::r)
  have h2:=S.zh8 (x::r) (S.za8 (x::r)).2
  obtain ⟨b,hb⟩:∃ b,(S.za8 (x::r)).1=b:=⟨_,rfl⟩
  rw[hb] at hp ⊢
  obtain ⟨z,k,n,i,t,lo,kids⟩:=b
  obtain ⟨hp1,hp2⟩:=hp
  have hp2:kids=[]:=hp2
  subst hp2
  exact ⟨fun _=>by have hp1:t.length≤_:=hp1;show t.length≤300000;omega,hnil⟩
theorem zp8 (sub:List (List UInt8)→List S.Blk × Bool) (d:Nat) (hd:d+1≤90000) (hs:∀ x,S.tt x≤300000→zel isC (d+1) (sub x).1) (hs2:∀ x,S.tt x≤300000→zel isC (d+2) (sub x).1) (Z f:Nat) (row:List (List UInt8)) (ht:S.tt row≤300000):zel isC d (S.rowFrom sub Z f row).1:=by
 induction f generalizing row with
 | zero=>simp only[S.rowFrom,zel];omega
 | succ f ih=>
  cases row with
  | nil=>rw[S.zeb];simp only[zel];omega
  | cons x r=>
   rw[S.zek _ _ _ _ (by simp)]
   have h1:=ztq sub d hd hs hs2 x r ht
   have h3:=S.zha (x::r) ((S.zah sub (x::r)).2+S.za5 ((x::r).drop (S.zah sub (x::r)).2))
   have h2:=ih ((x::r).drop ((S.zah sub (x::r)).2+S.za5 ((x::r).drop (S.zah sub (x::r)).2))) (by omega)
   exact ⟨(zws _ _ _ _).2 h1,h2⟩
theorem zpn (e:Nat) (row:List (List UInt8)) (d:Nat) (hd:d+2*e≤80000) (ht:S.tt row≤300000):zel isC d (S.za2 e row).1:=by
 induction e generalizing row d with
 | zero=>simp only[S.za2,zel];omega
 | succ e ih=>
  rw[show S.za2 (e+1) row=S.rowFrom (S.za2 e) row.length row.length (row.drop (S.za5 row)) from rfl]
  have h2:=S.zha row (S.za5 row)
  exact zp8 (S.za2 e) d (by omega) (fun x hx=>ih x (d+1) (by omega) hx) (fun x hx=>ih x (d+2) (by omega) hx) _ _ _ (by omega)
noncomputable def zem (l:List UInt8):List Nd:=zcg zh0 0 (S.za2 (l.length+1) (S.lines l)).1
theorem S.zvg (l:List UInt8):(S.lines l).length≤l.length+1:=by
 unfold S.lines
 split
 ·simp
 ·rw[S.zm1]
  obtain ⟨t,ht⟩:=S.zhf l
  have h2:=congrArg List.length ht
  rw[List.length_append] at h2
  have h3:(Lib.trimSuffix l [10]).count 10≤(Lib.trimSuffix l [10]).length:=List.count_le_length
  omega
theorem S.zkh (l:List UInt8):S.tt (S.lines l)≤2*l.length+1:=by
 have h1:=S.zvg l
 have h2:=S.zl9 l
 unfold S.tt;omega
theorem zmc (l:List UInt8):(zem l).length≤10*(2*l.length+1):=by
 have h1:=S.zkh l
 have h2:=S.zmq (l.length+1) (S.lines l)
 have h3:=zoj 0 (S.za2 (l.length+1) (S.lines l)).1
 unfold zem;omega
theorem zsv (s:ByteArray) (w:World) (hs:s.size≤1500) (henv:Env w) :
  Calls Tryz.prog 14 #[.string s] w fun e w'=>∃ B a cp,e = .returned (.tuple #[.slice a (zem s.data.toList).length cp,.int .i64 0])∧w.heap.size≤B∧zba B a cp (zem s.data.toList) w'∧Below w.heap.size w w':=by
 have h1:=S.zkh s.data.toList
 have h2:=zmc s.data.toList
 rw[S.length_data] at h1 h2
 have:=zx5 isC zh0 zto s w hs henv _ rfl (zpn (s.size+1) _ 0 (by omega) (by omega)) (by
  unfold zem at h2;rw[S.length_data] at h2;omega)
 unfold zem
 rw[S.length_data]
 exact this
theorem zno {B:Nat} {a:Option Addr} {cp:Nat} {l:List Nd} {w:World} (h:zba B a cp l w) (i:Nat) (x:Nd) (hi:l[i]?=some x) :
  ∃ g,a=some ⟨g,0,none⟩∧B≤g∧g<w.heap.size∧w.cell? ⟨g,i*5,none⟩=some (.int .i64 x.depth)∧w.cell? ⟨g,i*5+1,none⟩=some (.int .i64 x.kind)∧w.cell? ⟨g,i*5+2,none⟩=some (.int .i64 x.n)∧w.cell? ⟨g,i*5+3,none⟩=some (.string x.info)∧w.cell? ⟨g,i*5+4,none⟩=some (.string x.text):=by
 have hpos:0<l.length:=by have:=(List.getElem?_eq_some_iff.1 hi).1;omega
 obtain ⟨g,rfl,hg,hc,hcell⟩:=h.some hpos
 have hlt:=(World.ownsRow.lt h g rfl).2
 refine ⟨g,rfl,hg,hlt,?_,?_,?_,?_,?_⟩
 ·have:=hcell i 0 x _ hi (by omega) rfl;rw[Nat.mul_comm] at this;exact this
 ·have:=hcell i 1 x _ hi (by omega) rfl;rw[Nat.mul_comm] at this;exact this
 ·have:=hcell i 2 x _ hi (by omega) rfl;rw[Nat.mul_comm] at this;exact this
 ·have:=hcell i 3 x _ hi (by omega) rfl;rw[Nat.mul_comm] at this;exact this
 ·have:=hcell i 4 x _ hi (by omega) rfl;rw[Nat.mul_comm] at this;exact this
end Go.Proofs.YtlojgpkajkedeaaGreatDoor
