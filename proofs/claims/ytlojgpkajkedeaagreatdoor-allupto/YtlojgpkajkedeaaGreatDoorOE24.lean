import Derived.Test.YtlojgpkajkedeaaGreatDoorOE15
import Derived.Test.YtlojgpkajkedeaaGreatDoorOE13
import Derived.Test.YtlojgpkajkedeaaGreatDoorOC2
import Derived.Deep.LoopGhost
import Derived.WalkMore
import Derived.RegionTactic
set_option maxHeartbeats 0
set_option maxRecDepth 100000
namespace Go.Proofs.YtlojgpkajkedeaaGreatDoor
open Go.RowKit Go.Proofs.Tryz
structure St where
 f:Nat
 k:Nat
 ps:List Pt
 os:List Bj
def D6 (d:Sb)(a k:Nat):List Pt:=if a<k then [Db ((d.data.toList.drop a).take (k-a))]else []
theorem Pv (a:Sb)(d k m:Nat):(F6 a d k m).map Mem.p=D6 a d k:=by
 unfold F6 D6;split<;>rfl
def St.skip (a:Sb)(s:St)(n:Nat):St:=⟨s.k+n,s.k+n,s.ps++D6 a s.f s.k,s.os⟩
def St.lay (a:Sb)(s:St)(p:Pt)(n:Nat):St:=⟨s.k+n,s.k+n,(s.ps++D6 a s.f s.k)++[p],s.os⟩
def St.text (s:St)(n:Nat):St:=⟨s.f,s.k+n,s.ps,s.os⟩
def St.open (a:Sb)(s:St)(t:List UInt8)(d:Bool):St:=⟨s.k+t.length,s.k+t.length,(s.ps++D6 a s.f s.k)++[Db t],s.os++[⟨(s.ps++D6 a s.f s.k).length,d,false⟩]⟩
def St.close (a:Sb)(s:St):Bool×St:=
 match s.os.getLast? with
 |none=>(false,s)
 |some d=>
  if d.dead=false/\S.Gg (a.data.toList.drop (s.k+1))=true then
   (true,⟨s.k+(3+(S.addrOf (a.data.toList.drop (s.k+1))).length),s.k+(3+(S.addrOf (a.data.toList.drop (s.k+1))).length),
    s.ps.take d.j++[Nv (S.addrOf (a.data.toList.drop (s.k+1))) d.image (s.ps.drop (d.j+1)++D6 a s.f s.k)],
    if d.image then s.os.dropLast else s.os.dropLast.map Bj.kill⟩)
  else (false,⟨s.f,s.k,s.ps,s.os.dropLast⟩)
def St.Ci (a:Sb)(s:St):Bool×St:=
 if Lib.hasPrefix (a.data.toList.drop s.k) [93]=true then s.close a
 else if Lib.hasPrefix (a.data.toList.drop s.k) [91]=true then (true,s.open a [91] false)
 else if Lib.hasPrefix (a.data.toList.drop s.k) [33,91]=true then (true,s.open a [33,91] true)
 else (false,s)
def Mi:Pt:=.mk 9 [] [] [] 0 false false
def Pq:Pt:=.mk 10 [] [] [] 0 false false
def J3 (a:Sb)(s:St)(b:UInt8):St:=
 if b=92 then
  if Lib.hasPrefix (a.data.toList.drop s.k) [92,10]=true then s.lay a Pq 2
  else if S.escapes (a.data.toList.drop s.k)=true then (s.skip a 1).text 1
  else s.text 1
 else if b=96 then
  match S.Ji (a.data.toList.drop s.k) (S.same (a.data.toList.drop s.k)) with
  |some d=>s.lay a (Me a s.k (S.same (a.data.toList.drop s.k)) d) (d+S.same (a.data.toList.drop s.k))
  |none=>s.text (S.same (a.data.toList.drop s.k))
 else if b=32 then
  if Lib.hasPrefix (a.data.toList.drop (s.k+S.same (a.data.toList.drop s.k))) [10]=true then
   if 2<=S.same (a.data.toList.drop s.k)then s.lay a Pq (S.same (a.data.toList.drop s.k)+1)
   else s.lay a Mi (S.same (a.data.toList.drop s.k)+1)
  else s.text (S.same (a.data.toList.drop s.k))
 else if b=10 then s.lay a Mi 1
 else if b=60 then
  if S.Eb (a.data.toList.drop s.k)=true then s.lay a (M5 (S.Gv (a.data.toList.drop s.k))) ((S.Gv (a.data.toList.drop s.k)).length+2)
  else s.text 1
 else if b=42\/b=95 then s.lay a (Ld a s.k (S.same (a.data.toList.drop s.k))) (S.same (a.data.toList.drop s.k))
 else if b=33\/b=91\/b=93 then
  if (s.Ci a).1=true then (s.Ci a).2 else (s.Ci a).2.text 1
 else s.text 1
def step (a:Sb)(s:St):St:=match a.data.toList[s.k]? with
 |none=>s
 |some b=>J3 a s b
theorem Kz (a:Sb)(s:St)(d:s.k<a.size):step a s=J3 a s a[s.k]:=by
 unfold step;rw[S.Bz a s.k d]
inductive Ends (ct:Sb):St->List Pt->Prop
 |done (s:St) (h:s.k=ct.size):Ends ct s (s.skip ct 0).ps
 |go (s:St) (r:List Pt) (h:s.k<ct.size) (hr:Ends ct (step ct s) r):Ends ct s r
def EU (C:Nat):Prop:=3<C/\0<C
theorem Env.zny {C:Nat}{w w':Sw}(g:Env w)(d:EU C)(a:Below C w w'):Env w':=by
 obtain⟨⟨f,h,j⟩,⟨l,k⟩,m,o⟩:=g;have:=a.size;exact⟨⟨f,(a.cell (p:=⟨3,0,none⟩) d.1).trans h,j⟩,⟨l,(a.cell (p:=⟨0,0,none⟩) d.2).trans k⟩,Z,Z⟩
structure At (C:Nat)(ct:Sb)(w0:Sw)(s:St)(w:Sw):Prop where
 cut:∃ms sa sc A,Cut C ct s.f s.k ms s.os sa sc A w/\ms.map Mem.p=s.ps
 below:Below C w0 w
 env:Env w
 envC:EU C
 few:s.os.length<=s.k
theorem At.step {C:Nat}{f:Sb}{j w w':Sw}{s a:St}(d:At C f j s w)(g:Below C w w')(l:∃h o p k,Cut C f a.f a.k h a.os o p k w'/\h.map Mem.p=a.ps)(m:a.os.length<=a.k):At C f j a w':=
 ⟨l,d.below.trans g,d.env.zny d.envC g,d.envC,m⟩
theorem At.kl {C:Nat}{a:Sb}{g w:Sw}{s:St}(d:At C a g s w):s.k<=a.size:=by
 obtain⟨k,l,m,h,f,j⟩:=d.cut;exact f.kl
theorem At.small {C:Nat}{a:Sb}{g w:Sw}{s:St}(d:At C a g s w):a.size<=1000000:=by
 obtain⟨k,l,m,h,f,j⟩:=d.cut;exact f.small
theorem At.cells {C:Nat}{a:Sb}{g w:Sw}{s:St}(d:At C a g s w):∃h j k,w.heap[C]?=some (.cells [.string a,.int .i64 (s.f:Nat),.int .i64 (s.k:Nat),h,j,k].toArray 168 (0,0)):=by
 obtain⟨o,p,q,l,f,m⟩:=d.cut;exact⟨_,_,_,f.cells⟩
theorem At.same {C:Nat}{d:Sb}{h w w':Sw}{s:St}(a:At C d h s w)(f:Below w w w'):At C d h s w':=by
 obtain⟨l,m,o,j,g,k⟩:=a.cut;exact a.step (f.mono (Sm g.lt)) ⟨l,m,o,j,g.below f,k⟩ a.few
theorem At.drew {C:Nat}{a:Sb}{d w:Sw}{s:St}(f:At C a d s w):At C a d s w.drew:=f.same Sr.drew
theorem At.text {C:Nat}{f:Sb}{q w:Sw}{s:St}(g:At C f q s w)(n:Nat)(v:s.k+n<=f.size):At C f q (s.text n) (w.setCell (C 2) (.int .i64 ((s.k+n:Nat):Int))):=by
 obtain⟨h,o,p,k,d,x⟩:=g.cut;have l:Fr (C::Ad h) w (w.setCell (C 2) (.int .i64 ((s.k+n:Nat):Int))):=(Fr.refl _ w).setCell _ (.inl Y) _;have m:Cut C f s.f (s.k+n) (h++[]) s.os o p k (w.setCell (C 2) (.int .i64 ((s.k+n:Nat):Int))):=
  d.grow (r:=[]) (by rw[Qbk];exact d.ch.set2 (n:=s.k+n)) l (λj a=>by simp[Ad]at a) (λe u=>by simp at u) (λj a=>a) (λj a=>.inl a)
   (by have t:=d.bytes;simp[txt]at t ⊢;omega) (by have:=d.fk;omega) v (λj a=>by simp at a)
 rw[Qbk]at m;exact g.step (d.Mx l) ⟨h,o,p,k,m,x⟩ (by have:=g.few;simp only[St.text];omega)
theorem OV {C:Nat}{a:Sb}{h w:Sw}{s:St}(n:Nat)(d:At C a h s w)(m:s.k+n<=a.size):Calls prog 152 #[.pointer (some C),n] w λe g=>e=.returned (.tuple #[])/\At C a h (s.skip a n) g:=by
 obtain⟨p,q,r,j,f,o⟩:=d.cut;refine(DJ C a s.f s.k n p s.os q r j w f m).mono ?_;rintro e g⟨u,rfl,t,k,l⟩;exact⟨rfl,d.step (f.Mx l) ⟨_,_,_,_,k,by rw[Qv,Pv,o];rfl⟩ (by have:=d.few;simp only[St.skip];omega)⟩
theorem GD {C:Nat}{a:Sb}{h w:Sw}{s:St}(p:Pt)(n:Nat)(d:At C a h s w)(o:s.k+n<=a.size)(r:p.text=[])(A:p.rs=0)(m:p.Ab=[]):Calls prog 162 #[.pointer (some C),Kc p none none,n] w λe g=>(∃x,e=.returned x)/\At C a h (s.lay a p n) g:=by
 obtain⟨t,u,v,j,f,q⟩:=d.cut;refine(Vu C a s.f s.k n t s.os u v j p none none w f o (by rw[r];exact Qt _) Z (by rw[m];exact .nil)).mono ?_;rintro e g⟨D,E,rfl,y,z,k,l⟩;exact⟨⟨_,rfl⟩,d.step (f.Mx l) ⟨_,_,_,_,k,by rw[Qv,Qv,Pv,q];rfl⟩ (by have:=d.few;simp only[St.lay];omega)⟩
theorem Nh (a:Sb)(k:Nat)(f:k<a.size):1<=S.same (a.data.toList.drop k)/\k+S.same (a.data.toList.drop k)<=a.size:=by
 have d:=S.zb8 (a.data.toList.drop k) (λe=>by have:=congrArg List.length e;simp at this;omega);rw[Qf,S.lda]at d;omega
theorem RG {C:Nat}{a:Sb}{j w:Sw}{s:St}(d:At C a j s w)(g:s.k<a.size)(m:a[s.k].toNat<128):Calls prog 157 #[.pointer (some C)] w λe h=>e=.returned (.tuple #[])/\At C a j (s.lay a (Ld a s.k (S.same (a.data.toList.drop s.k))) (S.same (a.data.toList.drop s.k))) h:=by
 obtain⟨q,r,t,k,f,p⟩:=d.cut;refine(znu C a s.f s.k _ q s.os r t k w f g m rfl (Nh a s.k g).2).mono ?_;rintro e h⟨x,y,rfl,u,v,l,o⟩;exact⟨rfl,d.step (f.Mx o) ⟨_,_,_,_,l,by rw[Qv,Qv,Pv,p];rfl⟩ (by have:=d.few;simp only[St.lay];omega)⟩
theorem zj3 {C:Nat}{a:Sb}{o w:Sw}{s:St}(d:At C a o s w)(k:s.k<a.size):Calls prog 155 #[.pointer (some C),(S.same (a.data.toList.drop s.k):Nat)] w λe m=>e=.returned (.bool (S.Ji (a.data.toList.drop s.k) (S.same (a.data.toList.drop s.k))).isSome)/\At C a o (match S.Ji (a.data.toList.drop s.k) (S.same (a.data.toList.drop s.k)) with
  |some j=>s.lay a (Me a s.k (S.same (a.data.toList.drop s.k)) j) (j+S.same (a.data.toList.drop s.k))
  |none=>s) m:=by
 obtain⟨u,v,x,p,g,t⟩:=d.cut;have h:=Nh a s.k k;cases l:S.Ji (a.data.toList.drop s.k) (S.same (a.data.toList.drop s.k)) with
 |none=>
  refine(ze3 C a s.f s.k _ _ _ _ w g.cells g.small k h.1 h.2 l).mono ?_;rintro e m⟨rfl,f⟩;exact⟨rfl,d.same f⟩
 |some j=>
  have f:=S.Y5 _ _ _ (by rw[Qf,S.lda];omega) l;rw[Qf,S.lda]at f;refine(zko C a s.f s.k _ j u s.os v x p w g k h.1 h.2 l f.1 Z d.env).mono ?_;rintro e m⟨A,D,rfl,y,z,q,r⟩;exact⟨rfl,d.step (g.Mx r) ⟨_,_,_,_,q,by rw[Qv,Qv,Pv,t];rfl⟩ (by have:=d.few;simp only[St.lay];omega)⟩
theorem zkb {C:Nat}{a:Sb}{l w:Sw}{s:St}(d:At C a l s w)(k:s.k<a.size):Calls prog 156 #[.pointer (some C)] w λe j=>e=.returned (.bool (S.Eb (a.data.toList.drop s.k)))/\At C a l (if S.Eb (a.data.toList.drop s.k)=true then s.lay a (M5 (S.Gv (a.data.toList.drop s.k))) ((S.Gv (a.data.toList.drop s.k)).length+2)else s) j:=by
 obtain⟨r,t,u,m,f,q⟩:=d.cut;cases h:S.Eb (a.data.toList.drop s.k) with
 |false=>
  refine(zfi C a s.f s.k _ _ _ w f.cells f.small k h).mono ?_;rintro e j⟨rfl,g⟩;exact⟨rfl,d.same g⟩
 |true=>
  have g:=S.zmd _ h;rw[Qf,S.lda]at g;refine(zl4 C a s.f s.k _ r s.os t u m w f k h rfl Z).mono ?_;rintro e j⟨z,A,D,rfl,v,x,y,o,p⟩;exact⟨rfl,d.step (f.Mx p) ⟨_,_,_,_,o,by rw[Qv,Qv,Pv,q];rfl⟩ (by have:=d.few;simp[St.lay];omega)⟩
theorem JN {C:Nat}{a t:Sb}{o w:Sw}{s:St}(g:Bool)(d:At C a o s w)(u:s.k+t.size<=a.size)(D:1<=t.size)(r:(t.toList == [33,91])=g):Calls prog 204 #[.pointer (some C),t] w λe m=>e=.returned (.tuple #[])/\At C a o (s.open a t g) m:=by
 obtain⟨l,x,y,p,f,j⟩:=d.cut;refine(ZN C a t g s.f s.k l s.os x y p w f u r (by have:=d.few;have:=f.kl;have:=f.small;omega)).mono ?_;rintro e m⟨k,E,F,G,rfl,z,A,h,q⟩;have v:(l++F6 a s.f s.k k).length=(s.ps++D6 a s.f s.k).length:=by rw[<-j,<-Pv a s.f s.k k,<-Qv,List.length_map]
 rw[v,<-S.lda t]at h;exact⟨rfl,d.step q ⟨_,_,_,_,h,by rw[Qv,Qv,Pv,j];rfl⟩ (by have:=d.few;simp only[St.open,Qa,Qd,Qi,S.lda];omega)⟩
theorem zns {C:Nat}{d:Sb}{M w:Sw}{s:St}(m:At C d M s w)(H:s.k<d.size):Calls prog 203 #[.pointer (some C)] w λe t=>e=.returned (.bool (s.close d).1)/\At C d M (s.close d).2 t:=by
 obtain⟨g,q,r,u,h,y⟩:=m.cut;have T:=m.few;have ac:=h.small;rcases List.eq_nil_or_concat s.os with j|⟨f,a,j⟩
 ·have l:s.close d=(false,s):=by unfold St.close;rw[j];rfl
  rw[l];rw[j]at h;refine(ze7 C d s.f s.k g q r u w h).mono ?_;rintro e t⟨rfl,k⟩;exact⟨rfl,m.same k⟩
 have j:s.os=f++[a]:=by simpa using j
 have E:s.os.getLast?=some a:=by rw[j];simp
 have D:s.os.dropLast=f:=by rw[j];simp
 have ab:f.length+1<=s.k:=by have:=T;rw[j]at this;simpa using this
 rw[j]at h;cases hd:a.dead with
 |true=>
  have l:s.close d=(false,⟨s.f,s.k,s.ps,f⟩):=by unfold St.close;rw[E,D];simp[hd]
  rw[l];refine(zg4 C d s.f s.k g f a q r u w h Z hd).mono ?_;rintro e t⟨rfl,o,k⟩;exact⟨rfl,m.step k ⟨_,_,_,_,o,y⟩ (by show f.length<=s.k;omega)⟩
 |false=>
  cases p:S.Gg (d.data.toList.drop (s.k+1)) with
  |false=>
   have l:s.close d=(false,⟨s.f,s.k,s.ps,f⟩):=by unfold St.close;rw[E,D];simp[p]
   rw[l];refine(zca C d s.f s.k g f a q r u w h Z hd H p).mono ?_;rintro e t⟨rfl,o,k⟩;exact⟨rfl,m.step k ⟨_,_,_,_,o,y⟩ (by show f.length<=s.k;omega)⟩
  |true=>
   obtain⟨n,F⟩:=Qyy ((S.addrOf (d.data.toList.drop (s.k+1))).length);have aa:=S.zaf _ p;rw[Qf,S.lda,F]at aa;have W:=h.inl a Y;have L:g=g.take a.j++g[a.j]::g.drop (a.j+1):=by rw[<-Qm W,Sy]
   have K:a.j=(g.take a.j).length:=by rw[Ql];omega
   have l:s.close d=(true,⟨s.k+(3+n),s.k+(3+n),s.ps.take a.j++[Nv (S.addrOf (d.data.toList.drop (s.k+1))) a.image (s.ps.drop (a.j+1)++D6 d s.f s.k)],if a.image then f else f.map Bj.kill⟩):=by
    unfold St.close;rw[E,D];simp[p,hd,F]
   rw[l];obtain⟨x,A⟩:=Qzz (g.take a.j);obtain⟨v,G⟩:=Qzz (g.drop (a.j+1));obtain⟨z,R⟩:=Qzz (g[a.j]);have Q:x.map Mem.p=s.ps.take a.j:=by rw[A,<-y,List.map_take]
   have P:v.map Mem.p=s.ps.drop (a.j+1):=by rw[G,<-y,List.map_drop]
   rw[<-A,<-G,<-R]at L;rw[<-A]at K;rw[L]at h;refine close_some C d s.f s.k n x v z f a q r u w h K Z hd H p F Z _ ?_;rintro e t⟨af,N,ae,kl,rfl,o,k⟩;refine⟨rfl,m.step k ⟨_,q,r,N,o,?_⟩ ?_⟩;·rw[Qv,Q,Qv,P,Pv];rfl
   show (if a.image then f else f.map Bj.kill).length<=s.k+(3+n)
   split
   ·omega
   rw[List.length_map];omega
theorem AY (l p:List UInt8)(a:Lib.hasPrefix l p=true):p.length<=l.length:=by
 unfold Lib.hasPrefix at a;have:=(List.isPrefixOf_iff_prefix.1 a).length_le;exact this
theorem BR {C:Nat}{a:Sb}{u w:Sw}{s:St}(d:At C a u s w)(y:s.k<a.size):Calls prog 158 #[.pointer (some C)] w λe f=>e=.returned (.bool (s.Ci a).1)/\At C a u (s.Ci a).2 f:=by
 obtain⟨l,m,o,j⟩:=d.cells;unfold St.Ci;cases k:Lib.hasPrefix (a.data.toList.drop s.k) [93] with
 |true=>
  have h:=zns d.drew y;refine(zbd C a s.f s.k l m o w j d.kl k (λb f=>b=(s.close a).1/\At C a u (s.close a).2 f) (h.mono (λe f v=>⟨_,v.1,rfl,v.2⟩))).mono ?_;rintro e f⟨b,rfl,rfl,g⟩;exact⟨rfl,g⟩
 |false=>
  cases q:Lib.hasPrefix (a.data.toList.drop s.k) [91] with
  |true=>
   have h:=JN (t:=⟨#[91]⟩) false d.drew.drew (by show s.k+1<=a.size;omega) J Sk;refine(ZC C a s.f s.k l m o w j d.kl k q _ h).mono ?_;rintro e f⟨rfl,g⟩;exact⟨rfl,g⟩
  |false=>
   cases r:Lib.hasPrefix (a.data.toList.drop s.k) [33,91] with
   |true=>
    have p:=AY _ _ r;rw[Qf,S.lda]at p;have p:2<=a.size-s.k:=p;have h:=JN (t:=⟨#[33,91]⟩) true d.drew.drew.drew (by show s.k+2<=a.size;omega) J Sk;refine(zfy C a s.f s.k l m o w j d.kl k q r _ h).mono ?_;rintro e f⟨rfl,g⟩;exact⟨rfl,g⟩
   |false=>
    refine(zeo C a s.f s.k l m o w j d.kl k q r).mono ?_;rintro e f⟨rfl,x⟩;exact⟨rfl,d.same x⟩
theorem zf9 (a:Sb)(s:St)(d:s.k<a.size)(f:a[s.k]=92):step a s=(if Lib.hasPrefix (a.data.toList.drop s.k) [92,10]=true then s.lay a Pq 2 else if S.escapes (a.data.toList.drop s.k)=true then (s.skip a 1).text 1 else s.text 1):=by
 rw[Kz a s d,f];unfold J3;rw[if_pos rfl]
theorem zgh (a:Sb)(s:St)(f:s.k<a.size)(g:a[s.k]=96):step a s=(match S.Ji (a.data.toList.drop s.k) (S.same (a.data.toList.drop s.k)) with
  |some d=>s.lay a (Me a s.k (S.same (a.data.toList.drop s.k)) d) (d+S.same (a.data.toList.drop s.k))
  |none=>s.text (S.same (a.data.toList.drop s.k))):=by
 rw[Kz a s f,g];unfold J3;rw[if_neg J,if_pos rfl]<;>rfl
theorem zea (a:Sb)(s:St)(d:s.k<a.size)(f:a[s.k]=32):step a s=(if Lib.hasPrefix (a.data.toList.drop (s.k+S.same (a.data.toList.drop s.k))) [10]=true then
   if 2<=S.same (a.data.toList.drop s.k)then s.lay a Pq (S.same (a.data.toList.drop s.k)+1)
   else s.lay a Mi (S.same (a.data.toList.drop s.k)+1)
  else s.text (S.same (a.data.toList.drop s.k))):=by
 rw[Kz a s d,f];unfold J3;rw[if_neg J,if_neg J,if_pos rfl]
theorem zl8 (a:Sb)(s:St)(d:s.k<a.size)(f:a[s.k]=10):step a s=s.lay a Mi 1:=by
 rw[Kz a s d,f];unfold J3;rw[if_neg J,if_neg J,if_neg J,if_pos rfl]
theorem zcc (a:Sb)(s:St)(d:s.k<a.size)(f:a[s.k]=60):step a s=(if S.Eb (a.data.toList.drop s.k)=true then s.lay a (M5 (S.Gv (a.data.toList.drop s.k))) ((S.Gv (a.data.toList.drop s.k)).length+2)else s.text 1):=by
 rw[Kz a s d,f];unfold J3;rw[if_neg J,if_neg J,if_neg J,if_neg J,if_pos rfl]
theorem KR (a:Sb)(s:St)(f:s.k<a.size)(d:a[s.k]=42\/a[s.k]=95):step a s=s.lay a (Ld a s.k (S.same (a.data.toList.drop s.k))) (S.same (a.data.toList.drop s.k)):=by
 rw[Kz a s f];unfold J3;rcases d with d|d<;>rw[d,if_neg J,if_neg J,if_neg J,if_neg J,if_neg J,if_pos J]
theorem Zo (a:Sb)(s:St)(f:s.k<a.size)(d:a[s.k]=33\/a[s.k]=91\/a[s.k]=93):step a s=(if (s.Ci a).1=true then (s.Ci a).2 else (s.Ci a).2.text 1):=by
 rw[Kz a s f];unfold J3;rcases d with d|d|d<;>rw[d,if_neg J,if_neg J,if_neg J,if_neg J,if_neg J,if_neg J,if_pos J]
theorem znq (a:Sb)(s:St)(d:s.k<a.size)(f:a[s.k]≠92)(h:a[s.k]≠96)(j:a[s.k]≠32)(k:a[s.k]≠10)(l:a[s.k]≠60)(m:a[s.k]≠42)(o:a[s.k]≠95)(p:a[s.k]≠33)(q:a[s.k]≠91)(g:a[s.k]≠93):step a s=s.text 1:=by
 rw[Kz a s d];unfold J3;rw[if_neg f,if_neg h,if_neg j,if_neg k,if_neg l,if_neg (by rintro(d|d);exact m d;exact o d),if_neg (by rintro(d|d|d);exact p d;exact q d;exact g d)]
theorem Xo {P:Program}{d:Exit->Act->World->Prop}{a:Act}{w:Sw}{f:Code}(g:f.wp P d a w):(Code.skip.seq f).wp P d a w:=wp_seq (wp_skip g)
theorem zhr {P:Program}{d:Exit->Act->World->Prop}{a:Act}{w:Sw}{l:Nat}{f:Code}(g:f.wp P d a w):((Code.label l).seq f).wp P d a w:=wp_seq (wp_label g)
theorem NU {P:Program}{d:Exit->Act->World->Prop}{a:Act}{w:Sw}{l:Nat}{g:Code}(f:d (.goto l) a w):((Code.goto l).seq g).wp P d a w:=wp_seq (wp_goto f)
theorem GH {P:Program}{d:Exit->Act->World->Prop}{a:Act}{w:Sw}{h j:Code}(g:Act->World->Prop)(k:∀f:Act->World->Prop,(∀a w,g a w->f a w)->h.wp P (Exit.then f d) a w)(l:∀a w,g a w->j.wp P d a w):(Code.seq h j).wp P d a w:=wp_seq (k _ l)
theorem YB {P:Program}{a:Act}{w:Sw}{m:Exit->Act->World->Prop}{c s r c1 c2 c3 c4 c5:Code}(j:Nat->Nat->Act->World->Prop)(u:∀d n a w,j d n a w->d<6)
  (t:c=s.seq ((Code.label 0).seq r)) (D:findLabel s 0=none) (x:findLabel c 1=some c1) (y:findLabel c 2=some c2) (z:findLabel c 3=some c3) (A:findLabel c 4=some c4) (C:findLabel c 5=some c5)
  (start:∀v:Exit->Act->World->Prop,∀k:Act->World->Prop,U (∀n a w,j 0 n a w->k a w)->s.wp P (Exit.then k v) a w)
  (p0:∀n a w,j 0 n a w->∀k:Nat->Act->World->Prop,U (∀d f g h,f<n->j d f g h->k d g h)->r.wp P (jumps k m) a w)
  (p1:∀n a w,j 1 n a w->∀k:Nat->Act->World->Prop,U (∀d f g h,f<n->j d f g h->k d g h)->c1.wp P (jumps k m) a w)
  (p2:∀n a w,j 2 n a w->∀k:Nat->Act->World->Prop,U (∀d f g h,f<n->j d f g h->k d g h)->c2.wp P (jumps k m) a w)
  (p3:∀n a w,j 3 n a w->∀k:Nat->Act->World->Prop,U (∀d f g h,f<n->j d f g h->k d g h)->c3.wp P (jumps k m) a w)
  (p4:∀n a w,j 4 n a w->∀k:Nat->Act->World->Prop,U (∀d f g h,f<n->j d f g h->k d g h)->c4.wp P (jumps k m) a w)
  (p5:∀n a w,j 5 n a w->∀k:Nat->Act->World->Prop,U (∀d f g h,f<n->j d f g h->k d g h)->c5.wp P (jumps k m) a w):(Code.scope c).wp P m a w:=by
 refine zkd (λd=>match d with|0=>Code.skip.seq r|1=>c1|2=>c2|3=>c3|4=>c4|_=>c5) (λd a w=>∃n,j d n a w) (λd a w=>leastOf (λn=>j d n a w)) ?_ ?_ ?_
 ·rintro d a w⟨n,l⟩;match d,u d n a w l with
  |0,_=>rw[t];simp[findLabel,D]
  |1,_=>exact x
  |2,_=>exact y
  |3,_=>exact z
  |4,_=>exact A
  |5,_=>exact C
  |d+6,F=>omega
 ·rw[t];exact wp_seq (start _ _ (V (λn a w l=>zhr (p0 n a w l _ (V (λd f g h _ l=>⟨f,l⟩))))))
 rintro d a w E;have o:=(leastOf_spec E).1;have p:U (∀q f g h,f<leastOf (λn=>j d n a w)->j q f g h->(∃n,j q n g h)/\leastOf (λn=>j q n g h)<leastOf (λn=>j d n a w)):=
  V (λq f g h G l=>⟨⟨f,l⟩,Nat.lt_of_le_of_lt ((leastOf_spec ⟨f,l⟩).2 f l) G⟩)
 match d,u d _ a w o with
 |0,_=>exact Xo (p0 _ a w o _ p)
 |1,_=>exact p1 _ a w o _ p
 |2,_=>exact p2 _ a w o _ p
 |3,_=>exact p3 _ a w o _ p
 |4,_=>exact p4 _ a w o _ p
 |5,_=>exact p5 _ a w o _ p
 |d+6,F=>omega
def Kk:Pt->Nat
 |.mk _ _ _ Ab _ _ _=>1+D5 Ab
 where
 D5:List Pt->Nat
 |[]=>0
 |p::a=>Kk p+D5 a
abbrev D5:=Kk.D5
theorem Ua (p:Pt):Kk p=1+D5 p.Ab:=by cases p;rfl
theorem Kj (p:Pt)(r:List Pt):D5 (p::r)=Kk p+D5 r:=rfl
theorem CV (a b:List Pt):D5 (a++b)=D5 a+D5 b:=by
 induction a with
 |nil=>simp[Kk.D5]
 |cons f g d=>simp only[List.cons_append,Kj,d];omega
theorem RX (p:Pt)(t:List UInt8):Kk (p.Au t)=Kk p:=by cases p;rfl
def phi (l:List Pt):Nat:=(l.map (λa=>Kk a+a.text.length)).sum
theorem Vp:phi []=0:=rfl
theorem Rz (p:Pt)(r:List Pt):phi (p::r)=Kk p+p.text.length+phi r:=by simp[phi]
theorem Pb (a b:List Pt):phi (a++b)=phi a+phi b:=by simp[phi]
theorem KU (l:List Pt):D5 l<=phi l:=by
 induction l with
 |nil=>exact Qc _
 |cons d f a=>rw[Kj,Rz];omega
theorem PU (d:Nat)(l:List Pt):D5 (D8 d l)<=D5 l:=by
 induction d generalizing l with
 |zero=>exact Qt _
 |succ d a=>
  cases l with
  |nil=>exact Qc _
  |cons j g=>
   simp only[D8];split
   ·split
    ·have:=a g;rw[Kj];omega
    cases g with
    |nil=>exact Qc _
    |cons f h=>
     dsimp only;split
     ·have:=a (f.Au (j.text++f.text)::h);rw[Kj,RX]at this;rw[Kj,Kj];omega
     have:=a (f::h);rw[Kj,Kj];omega
   have:=a g;rw[Kj,Kj];omega
theorem Tq (s:Pt)(l:List Pt)(g:List Pt)(d:Pt)(m:List Pt)(a:Fw s l=some (g,d,m)):l=g++d::m/\opens s d=true:=by
 induction l generalizing g d m with
 |nil=>simp[Fw]at a
 |cons t q p=>
  simp only[Fw]at a;cases f:Fw s q with
  |none=>
   rw[f]at a;dsimp only at a;split at a
   ·rename_i o;simp at a;obtain⟨rfl,rfl,rfl⟩:=a;exact⟨rfl,o⟩
   simp at a
  |some r=>
   obtain⟨h,b,c⟩:=r;rw[f]at a;simp at a;obtain⟨rfl,rfl,rfl⟩:=a;obtain⟨j,k⟩:=p h b c f;exact⟨by rw[j];rfl,k⟩
theorem zfx (p:Pt)(t:List UInt8):(p.Au t).text=t:=by cases p;rfl
theorem zmf (f:Nat)(L:List Pt)(s:Pt):phi ((Dr f L s).1++[(Dr f L s).2])<=phi (L++[s]):=by
 induction f generalizing L s with
 |zero=>exact Qc _
 |succ f o=>
  simp only[Dr];split
  ·rename_i k;cases j:Fw s L with
   |none=>exact Qc _
   |some q=>
    obtain⟨p,d,a⟩:=q;dsimp only;refine Qj (o _ _) ?_;obtain⟨h,g⟩:=Tq s L p d a j;subst h;have m:d.text≠[]:=by
     intro e;unfold opens at g;rw[e]at g;simp at g
    have x:0<d.text.length:=Qbf.2 m;have u:0<s.text.length:=Qbf.2 k.2;have y:1<=Cm d s:=(by unfold Cm;split<;>omega);have r:=PU a.length a;have t:=KU a;have v:Kk (La (Cm d s) a)<=1+phi a:=by
     rw[Ua];show 1+D5 (F7 a)<=_;unfold F7;omega
    have l:(La (Cm d s) a).text=[]:=rfl;simp only[Pb,Rz,Vp,RX,zfx,Qf,l,Qi];omega
  exact Qc _
theorem zhd (L l:List Pt):phi (Ic L l)<=phi (L++l):=by
 induction l generalizing L with
 |nil=>simp[Ic]
 |cons a f d=>
  simp only[Ic];refine Qj (d _) ?_;have:=zmf a.text.length L a;simp only[Pb,Rz,Vp]at this ⊢;omega
theorem PZ (l:List Pt):D5 (He l)<=phi l:=by
 unfold He F7;have d:=PU (pairT l).length (pairT l);have f:=KU (pairT l);have a:=zhd [] l;rw[SY]at a;unfold pairT at *;omega
theorem CY (d:Sb)(a k:Nat):phi (D6 d a k)<=2*(k-a):=by
 unfold D6;split
 ·have:((d.data.toList.drop a).take (k-a)).length<=k-a:=by rw[Ql];omega
  rw[Rz,Vp];show 1+D5 []+_+0<=_;show 1+0+((d.data.toList.drop a).take (k-a)).length+0<=_;omega
 exact Qt _
def Fit (s:St):Prop:=phi s.ps<=3*s.f/\s.f<=s.k
theorem Fit.text {s:St}(a:Fit s)(n:Nat):Fit (s.text n):=⟨a.1,by have:=a.2;show s.f<=s.k+n;omega⟩
theorem Fit.skip {s:St}(d:Fit s)(a:Sb)(n:Nat):Fit (s.skip a n):=by
 refine⟨?_,Qc _⟩;have f:=CY a s.f s.k;have g:=d.1;have h:=d.2;show phi (s.ps++D6 a s.f s.k)<=3*(s.k+n);rw[Pb];omega
theorem Fit.lay {s:St}(d:Fit s)(a:Sb)(p:Pt)(n:Nat)(j:Kk p+p.text.length<=3*n):Fit (s.lay a p n):=by
 refine⟨?_,Qc _⟩;have f:=CY a s.f s.k;have g:=d.1;have h:=d.2;show phi ((s.ps++D6 a s.f s.k)++[p])<=3*(s.k+n);rw[Pb,Pb,Rz,Vp];omega
theorem Zu (k:Int)(i t:List UInt8)(z:Nat)(a b:Bool):Kk (.mk k i t [] z a b)=1:=rfl
theorem XP (l:List Pt)(a:Nat):phi (l.take a)+phi (l.drop (a+1))<=phi l:=by
 have d:phi l=phi (l.take a)+phi (l.drop a):=by rw[<-Pb,Sy]
 rw[d];cases hd:l.drop a with
 |nil=>rw[<-Qbb,hd];simp[phi]
 |cons g f=>rw[<-Qbb,hd,Rz];show _+phi f<=_;omega
theorem Fit.open {s:St}(d:Fit s)(a:Sb)(t:List UInt8)(f:Bool)(g:1<=t.length):Fit (s.open a t f):=by
 have:=Fit.lay d a (Db t) t.length (by unfold Db;rw[Zu];show 1+t.length<=_;omega);exact this
theorem Fit.Ci {s:St}(d:Fit s)(a:Sb):Fit (s.Ci a).2:=by
 unfold St.Ci;split
 ·unfold St.close;split
  ·exact d
  rename_i f _;split
  ·refine⟨?_,Qc _⟩;have h:=CY a s.f s.k;have j:=d.1;have k:=d.2;have l:=XP s.ps f.j;have g:=PZ (s.ps.drop (f.j+1)++D6 a s.f s.k);rw[Pb]at g;show phi (s.ps.take f.j++[Nv _ f.image (s.ps.drop (f.j+1)++D6 a s.f s.k)])<=3*(s.k+(3+_));rw[Pb,Rz,Vp,Ua];show phi (s.ps.take f.j)+(1+D5 (He (s.ps.drop (f.j+1)++D6 a s.f s.k))+0+0)<=_;omega
  exact d
 split
 ·exact d.open a _ _ J
 split
 ·exact d.open a _ _ J
 exact d
theorem Fit.step {s:St}(d:Fit s)(a:Sb)(f:s.k<a.size):Fit (step a s):=by
 rw[Kz a s f];have k:=Nh a s.k f;unfold J3;split
 ·split
  ·exact d.lay a _ _ J
  split
  ·exact(d.skip a 1).text 1
  exact d.text 1
 split
 ·split
  ·rename_i h g;have j:=S.Y5 _ _ _ (by rw[Qf,S.lda];omega) g;refine d.lay a _ _ ?_;unfold Me;rw[Zu];have:=S.BJ ((a.data.toList.drop (s.k+S.same (a.data.toList.drop s.k))).take (h-S.same (a.data.toList.drop s.k)));rw[Ql]at this;show 1+(S.Ip _).length<=_;omega
  exact d.text _
 split
 ·split
  ·split
   ·exact d.lay a _ _ (by show 1+0+0<=_;omega)
   exact d.lay a _ _ (by show 1+0+0<=_;omega)
  exact d.text _
 split
 ·exact d.lay a _ _ J
 split
 ·split
  ·exact d.lay a _ _ (by show (1+(1+0+0))+0<=_;omega)
  exact d.text 1
 split
 ·refine d.lay a _ _ ?_;unfold Ld;rw[Zu];show 1+((a.data.toList.drop s.k).take _).length<=_;rw[Ql];omega
 split
 ·split
  ·exact d.Ci a
  exact(d.Ci a).text 1
 exact d.text 1
theorem zhb (d:Sb)(s:St)(r:List Pt)(a:Ends d s r)(f:Fit s):phi r<=3*d.size:=by
 induction a with
 |done s a=>rw[<-a];have:=(f.skip d 0).1;exact this
 |go s r a h g=>exact g (f.step d a)
theorem YH (f:Sb)(s:St)(r a:List Pt)(d:Ends f s r)(g:Ends f s a):r=a:=by
 induction d generalizing a with
 |done s d=>
  cases g with
  |done _ _=>rfl
  |go _ _ h _=>omega
 |go s r d l k=>
  cases g with
  |done _ h=>omega
  |go _ _ _ j=>exact k a j
def Ki:St:=⟨0,0,[],[]⟩
noncomputable def Ey (c:List UInt8):List Pt:=by
 classical exact if a:∃d,Ends (S.B c) Ki d then He (Classical.choose a)else []
theorem Ut (c:List UInt8)(r:List Pt)(a:Ends (S.B c) Ki r):Ey c=He r:=by
 have d:∃r,Ends (S.B c) Ki r:=⟨r,a⟩;unfold Ey;rw[dif_pos d,YH _ _ _ _ (Classical.choose_spec d) a]
theorem UL (c:List UInt8):D5 (Ey c)<=3*c.length:=by
 by_cases f:∃a,Ends (S.B c) Ki a
 ·obtain⟨a,d⟩:=f;rw[Ut c a d];have h:=PZ a;have g:=zhb _ _ _ d ⟨Qc _,Qc _⟩;rw[S.Bc]at g;omega
 unfold Ey;rw[dif_neg f];exact Qt _
structure Py (C:Nat)(v2:Value)(a:Act):Prop where
 size:a.tmps.size=89
 zero:a.tmps[0]?=some (.pointer (some C))
 two:a.tmps[2]?=some v2
 defers:a.defers=[]
theorem zj4 (l:List Value)(f:l.length=89):∃a:Nat->Value,l=[a 0,a 1,a 2,a 3,a 4,a 5,a 6,a 7,a 8,a 9,a 10,a 11,a 12,a 13,a 14,a 15,a 16,a 17,a 18,a 19,a 20,a 21,a 22,a 23,a 24,a 25,a 26,a 27,a 28,a 29,a 30,a 31,a 32,a 33,a 34,a 35,a 36,a 37,a 38,a 39,a 40,a 41,a 42,a 43,a 44,a 45,a 46,a 47,a 48,a 49,a 50,a 51,a 52,a 53,a 54,a 55,a 56,a 57,a 58,a 59,a 60,a 61,a 62,a 63,a 64,a 65,a 66,a 67,a 68,a 69,a 70,a 71,a 72,a 73,a 74,a 75,a 76,a 77,a 78,a 79,a 80,a 81,a 82,a 83,a 84,a 85,a 86,a 87,a 88]/\∀i,i<89->l[i]?=some (a i):=by
 refine⟨λi=>l[i]?.getD undef,?_,?_⟩
 ·show l=(List.range 89).map (λi=>l[i]?.getD undef);apply List.ext_getElem?
  intro i;rw[SA];by_cases d:i<89
  ·rw[List.getElem?_range d,Qg Z,Sq,Qg Z];rfl
  rw[Qr Z,Qr (by simp;omega)];rfl
 intro i d;show l[i]?=some (l[i]?.getD undef);rw[Qg Z];rfl
theorem Py.q {C:Nat}{f:Value}{a:Act}(q:Py C f a):∃d:Nat->Value,a = { tmps:=#[.pointer (some C),d 1,f,d 3,d 4,d 5,d 6,d 7,d 8,d 9,d 10,d 11,d 12,d 13,d 14,d 15,d 16,d 17,d 18,d 19,d 20,d 21,d 22,d 23,d 24,d 25,d 26,d 27,d 28,d 29,d 30,d 31,d 32,d 33,d 34,d 35,d 36,d 37,d 38,d 39,d 40,d 41,d 42,d 43,d 44,d 45,d 46,d 47,d 48,d 49,d 50,d 51,d 52,d 53,d 54,d 55,d 56,d 57,d 58,d 59,d 60,d 61,d 62,d 63,d 64,d 65,d 66,d 67,d 68,d 69,d 70,d 71,d 72,d 73,d 74,d 75,d 76,d 77,d 78,d 79,d 80,d 81,d 82,d 83,d 84,d 85,d 86,d 87,d 88],defers:=[] }:=by
 obtain⟨u,v⟩:=a;obtain⟨g⟩:=u;obtain⟨h,j,k,l⟩:=q;simp only at h j k l;obtain⟨d,t,m⟩:=zj4 g (by simpa using h);refine⟨d,?_⟩;have o:d 0=.pointer (some C):=by
  have:=m 0 Z;have r:g[0]?=some (.pointer (some C)):=by simpa using j
  rw[r]at this;exact(Qy this).symm
 have p:d 2=f:=by
  have:=m 2 Z;have s:g[2]?=some f:=by simpa using k
  rw[s]at this;exact(Qy this).symm
 rw[t,l,o,p]
def Vw (C:Nat)(d:Sb)(k:Sw)(j:St)(l n:Nat)(a:Act)(w:Sw):Prop:=match l with
 |0=>∃o f,Py C o a/\At C d k f w/\(∀g,Ends d f g->Ends d j g)/\n=8*(d.size-f.k)+4
 |1=>∃f,Py C (.int .i64 1) a/\At C d k f w/\(∀g,Ends d f g->Ends d j g)/\(∃m:f.k<d.size,d[f.k]=92)/\n=8*(d.size-f.k)+3
 |2=>∃f,Py C (.int .i64 1) a/\At C d k f w/\(∀g,Ends d f g->Ends d j g)/\(∃m:f.k<d.size,d[f.k]=32)/\n=8*(d.size-f.k)+3
 |3=>∃(f:St) (h:Nat),Py C (.int .i64 (h:Nat)) a/\At C d k f w/\(∀g,Ends d (f.lay d Mi h) g->Ends d j g)/\1<=h/\f.k+h<=d.size/\n=8*(d.size-f.k)+1
 |4=>∃(f:St) (h:Nat),Py C (.int .i64 (h:Nat)) a/\At C d k f w/\(∀g,Ends d (f.text h) g->Ends d j g)/\1<=h/\f.k+h<=d.size/\n=8*(d.size-f.k)+1
 |5=>∃(f:St) (h:Nat),Py C (.int .i64 (h:Nat)) a/\At C d k f w/\(∀g,Ends d (f.lay d Pq h) g->Ends d j g)/\1<=h/\f.k+h<=d.size/\n=8*(d.size-f.k)+1
 |_=>False
theorem zik (C:Nat)(d:Sb)(h:Sw)(g:St)(l n:Nat)(a:Act)(w:Sw)(f:Vw C d h g l n a w):l<6:=by
 match l with
 |0=>omega
 |1=>omega
 |2=>omega
 |3=>omega
 |4=>omega
 |5=>omega
 |l+6=>exact f.elim
theorem EL (d:Sb)(s:St):((s.Ci d).1=true->s.k<(s.Ci d).2.k)/\((s.Ci d).1=false->(s.Ci d).2.k=s.k):=by
 unfold St.Ci;split
 ·unfold St.close;split
  ·exact⟨λa=>by simp at a,λ_=>rfl⟩
  split
  ·exact⟨λ_=>by show s.k<s.k+_;omega,λa=>by simp at a⟩
  exact⟨λa=>by simp at a,λ_=>rfl⟩
 split
 ·exact⟨λ_=>by show s.k<s.k+1;omega,λa=>by simp at a⟩
 split
 ·exact⟨λ_=>by show s.k<s.k+2;omega,λa=>by simp at a⟩
 exact⟨λa=>by simp at a,λ_=>rfl⟩
theorem zjm (C:Nat)(a:Sb)(H:St)(w:Sw)(j:At C a w H w):Calls prog 106 #[.pointer (some C)] w λe h=>e=.returned (.tuple #[])/\∃d,At C a w d h/\Ends a H d.ps:=by
 have b4:=V j;clear j;go_enter func106,ntmps106;go_wp2_with fail
 refine YB (Vw C a w H) (zik C a w H) rfl rfl rfl rfl rfl rfl rfl ?start ?p0 ?p1 ?p2 ?p3 ?p4 ?p5
 case start=>
  intro ba aa l;go_wp2;exact l.q _ _ _ ⟨_,H,⟨rfl,rfl,rfl,rfl⟩,b4.q,λg j=>j,rfl⟩
 case p0=>
  rintro n ap wr⟨cr,d,z,p,v,rfl⟩ aa l;obtain⟨a1,rfl⟩:=z.q;obtain⟨ai,aj,ak,A⟩:=p.cells;have F:=p.kl;have bs:=p.small;have u:=V p;have cp:wr.cell? C=some (.string a):=X A 0 _ rfl;have b1:wr.cell? (C 2)=some (.int .i64 (d.k:Nat)):=X A 2 _ rfl;by_cases o:d.k<a.size
  ·have cm:((d.k:Int) == (a.size:Int))=false:=by rw[Qe];omega
   obtain⟨r,bv⟩:∃r:Nat,a[d.k].toNat=r:=⟨_,rfl⟩;have Q:U (∀b:UInt8,r=b.toNat->a[d.k]=b):=V (λb j=>Qk.1 (bv.trans j));have P:U (∀b:UInt8,r≠b.toNat->a[d.k]≠b):=V (λb j e=>j (by rw[<-bv,e]));have s:U (∀g,Ends a (step a d) g->Ends a H g):=V (λg j=>v g (.go d g o j));have N:=V v;have bw:=V A;have b5:(0:Int)<=(d.k:Int):=Z;have b6:(d.k:Int)<(a.size:Int):=Z;clear A p v z;go_wp2_with (fail);go_region
   go_wp2_with (fail);go_region
   by_cases bk:r=92
   ·have t:=V (Q.q 92 bk);subst bk;go_wp2;go_step3
    exact l.q 1 (8*(a.size-d.k)+3) _ _ Z ⟨d,⟨rfl,rfl,rfl,rfl⟩,u.q.drew.drew,N.q,⟨o,t.q⟩,rfl⟩
   have cf:((r:Int) == 92)=false:=by rw[Qe];omega
   by_cases bn:r=96
   ·have t:=V (Q.q 96 bn);subst bn;have k:=V (zgh a d o t.q);have al:=V (Nf C a d.f d.k ai aj ak wr.drew.drew bw.q F);have ah:(a.extract d.k a.size).size=a.size-d.k:=Y;have aw:=V (zj3 u.q.drew.drew.drew o);have an:=V (λW=>Xi (a.extract d.k a.size) W (by rw[ah];simp[maxLen];omega) Z (by rw[ByteArray.getElem_extract];simp[t.q]));rw[Gw]at an;have af:=Nh a d.k o;obtain⟨q,ao⟩:=Qyy (S.same (a.data.toList.drop d.k));rw[ao]at k aw an af;clear ao ah;obtain⟨cn,M⟩:=af;cases R:S.Ji (a.data.toList.drop d.k) q with
    |some T=>
     rw[R]at k aw;have co:=V R;clear R;go_wp2_with (fail);apply al.m;rintro e h⟨rfl,rfl⟩;go_wp2_with (fail);refine(an.q _).mono ?_;rintro e h⟨rfl,rfl⟩;go_wp2_with (fail);apply aw.m;rintro e h⟨rfl,f⟩;have m:=V f;clear f;go_wp2;go_step3
     exact l.q 0 (8*(a.size-(d.k+(T+q)))+4) _ _ Z ⟨_,_,⟨rfl,rfl,rfl,rfl⟩,m.q,λg j=>s.q g (by rw[k.q];exact j),rfl⟩
    |none=>
     rw[R]at k aw;clear R;go_wp2_with (fail);apply al.m;rintro e h⟨rfl,rfl⟩;go_wp2_with (fail);refine(an.q _).mono ?_;rintro e h⟨rfl,rfl⟩;go_wp2_with (fail);apply aw.m;rintro e h⟨rfl,f⟩;have m:=V f;obtain⟨a7,a8,a9,y⟩:=f.cells;have az:h.cell? (C 2)=some (.int .i64 (d.k:Nat)):=X y 2 _ rfl;have a0:=Av y;clear f y;go_wp2;go_step3
     go_wp2;go_step3
     exact l.q 0 (8*(a.size-(d.k+q))+4) _ _ Z ⟨_,_,⟨rfl,rfl,rfl,rfl⟩,m.q.text q M,λg j=>s.q g (by rw[k.q];exact j),rfl⟩
   have ci:((r:Int) == 96)=false:=by rw[Qe];omega
   by_cases bf:r=32
   ·have t:=V (Q.q 32 bf);subst bf;go_wp2;go_step3
    exact l.q 2 (8*(a.size-d.k)+3) _ _ Z ⟨d,⟨rfl,rfl,rfl,rfl⟩,u.q.drew.drew,N.q,⟨o,t.q⟩,rfl⟩
   have ca:((r:Int) == 32)=false:=by rw[Qe];omega
   by_cases bc:r=10
   ·have t:=V (Q.q 10 bc);subst bc;have k:=V (zl8 a d o t.q);go_wp2;go_step3
    exact l.q 3 (8*(a.size-d.k)+1) _ _ Z ⟨d,1,⟨rfl,rfl,rfl,rfl⟩,u.q.drew.drew,λg j=>s.q g (by rw[k.q];exact j),Z,Z,rfl⟩
   have b9:((r:Int) == 10)=false:=by rw[Qe];omega
   by_cases bi:r=60
   ·have t:=V (Q.q 60 bi);subst bi;have k:=V (zcc a d o t.q);have a5:=V (zkb u.q.drew.drew o);have M:d.k+1<=a.size:=o;cases R:S.Eb (a.data.toList.drop d.k) with
    |true=>
     rw[R,if_pos rfl]at k a5;clear R;go_wp2_with (fail);apply a5.m;rintro e h⟨rfl,f⟩;have m:=V f;clear f;go_wp2;go_step3
     exact l.q 0 (8*(a.size-(d.k+((S.Gv (a.data.toList.drop d.k)).length+2)))+4) _ _ Z ⟨_,_,⟨rfl,rfl,rfl,rfl⟩,m.q,λg j=>s.q g (by rw[k.q];exact j),rfl⟩
    |false=>
     rw[R,if_neg Y]at k a5;clear R;go_wp2_with (fail);apply a5.m;rintro e h⟨rfl,f⟩;have m:=V f;obtain⟨a7,a8,a9,y⟩:=f.cells;have az:h.cell? (C 2)=some (.int .i64 (d.k:Nat)):=X y 2 _ rfl;have a0:=Av y;clear f y;go_wp2;go_step3
     go_wp2;go_step3
     exact l.q 0 (8*(a.size-(d.k+1))+4) _ _ Z ⟨_,_,⟨rfl,rfl,rfl,rfl⟩,m.q.text 1 M,λg j=>s.q g (by rw[k.q];exact j),rfl⟩
   have cd:((r:Int) == 60)=false:=by rw[Qe];omega
   by_cases bh:r=42
   ·have t:=V (Q.q 42 bh);subst bh;have k:=V (KR a d o (.inl t.q));have bo:=V (RG u.q.drew.drew o (by rw[t.q];decide));have af:=Nh a d.k o;go_wp2_with (fail);apply bo.m;rintro e h⟨rfl,f⟩;have m:=V f;clear f;go_wp2;go_step3
    exact l.q 0 (8*(a.size-(d.k+S.same (a.data.toList.drop d.k)))+4) _ _ Z ⟨_,_,⟨rfl,rfl,rfl,rfl⟩,m.q,λg j=>s.q g (by rw[k.q];exact j),rfl⟩
   have cc:((r:Int) == 42)=false:=by rw[Qe];omega
   by_cases bm:r=95
   ·have t:=V (Q.q 95 bm);subst bm;have k:=V (KR a d o (.inr t.q));have bo:=V (RG u.q.drew.drew o (by rw[t.q];decide));have af:=Nh a d.k o;go_wp2_with (fail);apply bo.m;rintro e h⟨rfl,f⟩;have m:=V f;clear f;go_wp2;go_step3
    exact l.q 0 (8*(a.size-(d.k+S.same (a.data.toList.drop d.k)))+4) _ _ Z ⟨_,_,⟨rfl,rfl,rfl,rfl⟩,m.q,λg j=>s.q g (by rw[k.q];exact j),rfl⟩
   have ch:((r:Int) == 95)=false:=by rw[Qe];omega
   by_cases bg:r=33
   ·have t:=V (Q.q 33 bg);subst bg;have k:=V (Zo a d o (.inl t.q));have E:=V (BR u.q.drew.drew o);have x:=EL a d;obtain⟨⟨a3,G⟩,ag⟩:∃a2,d.Ci a=a2:=⟨_,rfl⟩;rw[ag]at k E x;dsimp only at k E x;clear ag;cases a3 with
    |true=>
     have L:=x.1 rfl;rw[if_pos rfl]at k;go_wp2_with (fail);apply E.m;rintro e h⟨rfl,f⟩;have b0:=f.kl;have m:=V f;clear f x;go_wp2;go_step3
     exact l.q 0 (8*(a.size-G.k)+4) _ _ Z ⟨_,_,⟨rfl,rfl,rfl,rfl⟩,m.q,λg j=>s.q g (by rw[k.q];exact j),rfl⟩
    |false=>
     have L:=x.2 rfl;rw[if_neg Y]at k;go_wp2_with (fail);apply E.m;rintro e h⟨rfl,f⟩;have m:=V f;obtain⟨a7,a8,a9,y⟩:=f.cells;have az:h.cell? (C 2)=some (.int .i64 (G.k:Nat)):=X y 2 _ rfl;have a0:=Av y;have M:G.k+1<=a.size:=Z;have ax:=V L;clear f y x L;go_wp2;go_step3
     go_wp2;go_step3
     exact l.q 0 (8*(a.size-(G.k+1))+4) _ _ (by have:=ax.q;omega) ⟨_,_,⟨rfl,rfl,rfl,rfl⟩,m.q.text 1 M,λg j=>s.q g (by rw[k.q];exact j),rfl⟩
   have cb:((r:Int) == 33)=false:=by rw[Qe];omega
   by_cases bj:r=91
   ·have t:=V (Q.q 91 bj);subst bj;have k:=V (Zo a d o (.inr (.inl t.q)));have E:=V (BR u.q.drew.drew o);have x:=EL a d;obtain⟨⟨a3,G⟩,ag⟩:∃a2,d.Ci a=a2:=⟨_,rfl⟩;rw[ag]at k E x;dsimp only at k E x;clear ag;cases a3 with
    |true=>
     have L:=x.1 rfl;rw[if_pos rfl]at k;go_wp2_with (fail);apply E.m;rintro e h⟨rfl,f⟩;have b0:=f.kl;have m:=V f;clear f x;go_wp2;go_step3
     exact l.q 0 (8*(a.size-G.k)+4) _ _ Z ⟨_,_,⟨rfl,rfl,rfl,rfl⟩,m.q,λg j=>s.q g (by rw[k.q];exact j),rfl⟩
    |false=>
     have L:=x.2 rfl;rw[if_neg Y]at k;go_wp2_with (fail);apply E.m;rintro e h⟨rfl,f⟩;have m:=V f;obtain⟨a7,a8,a9,y⟩:=f.cells;have az:h.cell? (C 2)=some (.int .i64 (G.k:Nat)):=X y 2 _ rfl;have a0:=Av y;have M:G.k+1<=a.size:=Z;have ax:=V L;clear f y x L;go_wp2;go_step3
     go_wp2;go_step3
     exact l.q 0 (8*(a.size-(G.k+1))+4) _ _ (by have:=ax.q;omega) ⟨_,_,⟨rfl,rfl,rfl,rfl⟩,m.q.text 1 M,λg j=>s.q g (by rw[k.q];exact j),rfl⟩
   have ce:((r:Int) == 91)=false:=by rw[Qe];omega
   by_cases bl:r=93
   ·have t:=V (Q.q 93 bl);subst bl;have k:=V (Zo a d o (.inr (.inr t.q)));have E:=V (BR u.q.drew.drew o);have x:=EL a d;obtain⟨⟨a3,G⟩,ag⟩:∃a2,d.Ci a=a2:=⟨_,rfl⟩;rw[ag]at k E x;dsimp only at k E x;clear ag;cases a3 with
    |true=>
     have L:=x.1 rfl;rw[if_pos rfl]at k;go_wp2_with (fail);apply E.m;rintro e h⟨rfl,f⟩;have b0:=f.kl;have m:=V f;clear f x;go_wp2;go_step3
     exact l.q 0 (8*(a.size-G.k)+4) _ _ Z ⟨_,_,⟨rfl,rfl,rfl,rfl⟩,m.q,λg j=>s.q g (by rw[k.q];exact j),rfl⟩
    |false=>
     have L:=x.2 rfl;rw[if_neg Y]at k;go_wp2_with (fail);apply E.m;rintro e h⟨rfl,f⟩;have m:=V f;obtain⟨a7,a8,a9,y⟩:=f.cells;have az:h.cell? (C 2)=some (.int .i64 (G.k:Nat)):=X y 2 _ rfl;have a0:=Av y;have M:G.k+1<=a.size:=Z;have ax:=V L;clear f y x L;go_wp2;go_step3
     go_wp2;go_step3
     exact l.q 0 (8*(a.size-(G.k+1))+4) _ _ (by have:=ax.q;omega) ⟨_,_,⟨rfl,rfl,rfl,rfl⟩,m.q.text 1 M,λg j=>s.q g (by rw[k.q];exact j),rfl⟩
   have cg:((r:Int) == 93)=false:=by rw[Qe];omega
   have k:=V (znq a d o (P.q 92 bk) (P.q 96 bn) (P.q 32 bf) (P.q 10 bc) (P.q 60 bi) (P.q 42 bh) (P.q 95 bm) (P.q 33 bg) (P.q 91 bj) (P.q 93 bl));have M:d.k+1<=a.size:=o;have b3:=V u.q.drew.drew;have az:wr.drew.drew.cell? (C 2)=some (.int .i64 (d.k:Nat)):=b1;have a0:∀i,wr.drew.drew.frozen? (C i)=false:=Av bw.q;go_wp2;go_step3
   go_wp2;go_step3
   exact l.q 0 (8*(a.size-(d.k+1))+4) _ _ Z ⟨_,_,⟨rfl,rfl,rfl,rfl⟩,b3.q.text 1 M,λg j=>s.q g (by rw[k.q];exact j),rfl⟩
  have bz:d.k=a.size:=Z;have cl:((d.k:Int) == (a.size:Int))=true:=by rw[Sqb];omega
  have bq:=V (OV 0 p.drew Z);have N:U (Ends a H (d.skip a 0).ps):=V (v _ (.done d bz));clear A p v z bz o;go_wp2_with fail
  go_region
  go_wp2_with fail
  apply bq.m;rintro e h⟨rfl,f⟩;have m:=V f;clear f;go_wp2;simp only[jumps];exact Sqk (results_none rfl _ _ _) rfl ⟨rfl,d.skip a 0,m.q,N.q⟩
 case p1=>
  rintro n ap wr⟨d,z,p,v,⟨o,am⟩,rfl⟩ aa l;obtain⟨a1,rfl⟩:=z.q;obtain⟨ai,aj,ak,A⟩:=p.cells;have k:=V (zf9 a d o am);have s:U (∀g,Ends a (step a d) g->Ends a H g):=V (λg j=>v g (.go d g o j));have ar:=V (Ng C a ⟨#[92,10]⟩ d.f d.k ai aj ak wr A p.kl);rw[show (⟨#[92,10]⟩:Sb).data.toList=[92,10] from rfl]at ar;have al:=V (Nf C a d.f d.k ai aj ak wr.drew A p.kl);have bs:=p.small;have u:=V p;have a4:=V (λW=>zdy (a.extract d.k a.size) W (by simp[maxLen];omega));rw[Gw]at a4;clear A v am p z;generalize ae:Lib.hasPrefix (a.data.toList.drop d.k) [92,10]=a6 at ar;cases a6 with
  |true=>
   have F:=AY _ _ ae;rw[Qf,S.lda]at F;have F:d.k+2<=a.size:=by have:2<=a.size-d.k:=F;omega
   have ab:=V ae;clear ae;go_wp2_with (fail);apply ar.m;rintro e h⟨rfl,rfl⟩;go_wp2;go_step3
   exact l.q 5 (8*(a.size-d.k)+1) _ _ Z ⟨d,2,⟨rfl,rfl,rfl,rfl⟩,u.q.drew,λg j=>s.q g (by rw[k.q,if_pos ab.q];exact j),Z,F,rfl⟩
  |false=>
   generalize bx:S.escapes (a.data.toList.drop d.k)=b2 at a4;have ab:=V ae;have br:=V bx;clear ae bx;cases b2 with
   |true=>
    have bq:=V (OV 1 u.q.drew.drew o);have F:d.k+2<=a.size:=by
     have bb:=br.q;unfold S.escapes at bb;by_cases bd:d.k+1<a.size
     ·omega
     rw[Qr (by rw[Qf,S.lda];omega)]at bb;simp at bb
    go_wp2_with (fail);apply ar.m;rintro e h⟨rfl,rfl⟩;go_wp2_with (fail);apply al.m;rintro e h⟨rfl,rfl⟩;go_wp2_with (fail);refine(a4.q _).mono ?_;rintro e h⟨rfl,rfl⟩;go_wp2_with (fail);apply bq.m;rintro e h⟨rfl,f⟩;have m:=V f;clear f;go_wp2;go_step3
    exact l.q 4 (8*(a.size-(d.k+1))+1) _ _ Z ⟨d.skip a 1,1,⟨rfl,rfl,rfl,rfl⟩,m.q,λg j=>s.q g (by rw[k.q,if_neg (by rw[ab.q];simp),if_pos br.q];exact j),Z,F,rfl⟩
   |false=>
    go_wp2_with (fail);apply ar.m;rintro e h⟨rfl,rfl⟩;go_wp2_with (fail);apply al.m;rintro e h⟨rfl,rfl⟩;go_wp2_with (fail);refine(a4.q _).mono ?_;rintro e h⟨rfl,rfl⟩;go_wp2;go_step3
    exact l.q 4 (8*(a.size-d.k)+1) _ _ Z ⟨d,1,⟨rfl,rfl,rfl,rfl⟩,u.q.drew.drew,λg j=>s.q g (by rw[k.q,if_neg (by rw[ab.q];simp),if_neg (by rw[br.q];simp)];exact j),Z,Z,rfl⟩
 case p2=>
  rintro n ap wr⟨d,z,p,v,⟨o,am⟩,rfl⟩ aa l;obtain⟨a1,rfl⟩:=z.q;obtain⟨ai,aj,ak,A⟩:=p.cells;have k:=V (zea a d o am);have s:U (∀g,Ends a (step a d) g->Ends a H g):=V (λg j=>v g (.go d g o j));have bs:=p.small;have u:=V p;have al:=V (Nf C a d.f d.k ai aj ak wr A p.kl);have b7:=V (Nf C a d.f d.k ai aj ak wr.drew A p.kl);have ah:(a.extract d.k a.size).size=a.size-d.k:=Y;obtain⟨q,ao⟩:=Qyy (S.same (a.data.toList.drop d.k));have an:U (∀W,Calls prog 153 #[.string (a.extract d.k a.size)] W λe h=>e=.returned q/\W=h):=V (λW=>by
   have:=Xi (a.extract d.k a.size) W (by rw[ah];simp[maxLen];omega) Z (by rw[ByteArray.getElem_extract];simp[am]);rw[Gw,ao]at this;exact this)
  have af:=Nh a d.k o;rw[ao]at k af;have bp:=V (λW=>Tryz.strings_HasPrefix ((a.extract d.k a.size).extract q (a.size-d.k)) ⟨#[10]⟩ W);have bu:((a.extract d.k a.size).extract q (a.size-d.k)).data.toList=a.data.toList.drop (d.k+q):=by
   rw[<-ah,Gw,Gw,Qbb]
  rw[bu]at bp;have b5:(0:Int)<=(q:Int):=Z;have b6:(q:Int)<=((a.extract d.k a.size).size:Int):=Z;have cj:(q:Int)<=((a.size-d.k:Nat):Int):=Z;have ck:q<=a.size-d.k:=Z;clear A v am p z ao bu;go_wp2_with fail
  apply al.m;rintro e h⟨rfl,rfl⟩;go_wp2_with fail
  refine(an.q _).mono ?_;rintro e h⟨rfl,rfl⟩;go_wp2_with fail
  apply b7.m;rintro e h⟨rfl,rfl⟩;generalize ae:Lib.hasPrefix (a.data.toList.drop (d.k+q)) (⟨#[10]⟩:Sb).data.toList=a6 at bp;have ab:U (Lib.hasPrefix (a.data.toList.drop (d.k+q)) [10]=a6):=V ae;clear ae;go_wp2_with fail
  refine(bp.q _).mono ?_;rintro e h⟨rfl,rfl⟩;cases a6 with
  |false=>
   go_wp2;go_step3
   exact l.q 4 (8*(a.size-d.k)+1) _ _ Z ⟨d,q,⟨rfl,rfl,rfl,rfl⟩,u.q.drew.drew,λg j=>s.q g (by rw[k.q,if_neg (by rw[ab.q];simp)];exact j),af.1,af.2,rfl⟩
  |true=>
   have F:=AY _ _ ab.q;rw[Qf,S.lda]at F;have F:d.k+(q+1)<=a.size:=by have:1<=a.size-(d.k+q):=F;omega
   by_cases bd:2<=q
   ·have b8:(2:Int)<(q:Int)+1:=Z;go_wp2;go_step3
    exact l.q 5 (8*(a.size-d.k)+1) _ _ Z ⟨d,q+1,⟨rfl,rfl,rfl,rfl⟩,u.q.drew.drew,λg j=>s.q g (by rw[k.q,if_pos ab.q,if_pos bd];exact j),Z,F,rfl⟩
   have b8:¬(2:Int)<(q:Int)+1:=Z;have av:U (Calls prog 162 #[.pointer (some C),.agg #[(9:Int),(),(),.pointer none,.pointer none,O,false,false],((q:Int)+1:Int)] wr.drew.drew λe h=>(∃T,e=.returned T)/\At C a w (d.lay a Mi (q+1)) h):=V (GD Mi (q+1) u.q.drew.drew F rfl rfl rfl);go_wp2;go_step3
   go_wp2_with (fail);apply av.m;rintro e h⟨⟨T,rfl⟩,f⟩;have m:=V f;clear f;go_wp2;go_step3
   exact l.q 0 (8*(a.size-(d.k+(q+1)))+4) _ _ Z ⟨_,d.lay a Mi (q+1),⟨rfl,rfl,rfl,rfl⟩,m.q,λg j=>s.q g (by rw[k.q,if_pos ab.q,if_neg bd];exact j),rfl⟩
 case p3=>
  rintro n ap wr⟨d,D,z,p,v,ah,ay,rfl⟩ aa l;obtain⟨a1,rfl⟩:=z.q;have av:U (Calls prog 162 #[.pointer (some C),.agg #[(9:Int),(),(),.pointer none,.pointer none,O,false,false],D] wr λe h=>(∃T,e=.returned T)/\At C a w (d.lay a Mi D) h):=V (GD Mi D p ay rfl rfl rfl);refine Xo (GH (λK h=>Vw C a w H 0 (8*(a.size-(d.k+D))+4) K h) (λbt ac=>?_) (λK h aq=>NU (l.q 0 _ K h Z aq)));have au:=V ac;have N:=V v;clear ac l z p v;generalize jumps aa _=ba;go_wp2_with fail
  apply av.m;rintro e h⟨⟨T,rfl⟩,f⟩;have m:=V f;clear f;go_wp2;exact au.q _ _ ⟨_,d.lay a Mi D,⟨rfl,rfl,rfl,rfl⟩,m.q,N.q,rfl⟩
 case p4=>
  rintro n ap wr⟨d,D,z,p,v,ah,ay,rfl⟩ aa l;obtain⟨a1,rfl⟩:=z.q;obtain⟨ai,aj,ak,A⟩:=p.cells;have b1:wr.cell? (C 2)=some (.int .i64 (d.k:Nat)):=X A 2 _ rfl;have cq:=Av A;have u:=V p;have N:=V v;have bs:=p.small;clear p v A;refine Xo (GH (λK h=>Vw C a w H 0 (8*(a.size-(d.k+D))+4) K h) (λbt ac=>?_) (λK h aq=>NU (l.q 0 _ K h Z aq)));have au:=V ac;clear ac l z;generalize jumps aa _=ba;go_wp2;exact au.q _ _ ⟨_,d.text D,⟨rfl,rfl,rfl,rfl⟩,u.q.text D ay,N.q,rfl⟩
 case p5=>
  rintro n ap wr⟨d,D,z,p,v,ah,ay,rfl⟩ aa l;obtain⟨a1,rfl⟩:=z.q;have av:U (Calls prog 162 #[.pointer (some C),.agg #[(10:Int),(),(),.pointer none,.pointer none,O,false,false],D] wr λe h=>(∃T,e=.returned T)/\At C a w (d.lay a Pq D) h):=V (GD Pq D p ay rfl rfl rfl);refine Xo (GH (λK h=>Vw C a w H 0 (8*(a.size-(d.k+D))+4) K h) (λbt ac=>?_) (λK h aq=>wp_goto (l.q 0 _ K h Z aq)));have au:=V ac;have N:=V v;clear ac l z p v;generalize jumps aa _=ba;go_wp2_with fail
  apply av.m;rintro e h⟨⟨T,rfl⟩,f⟩;have m:=V f;clear f;go_wp2;exact au.q _ _ ⟨_,d.lay a Pq D,⟨rfl,rfl,rfl,rfl⟩,m.q,N.q,rfl⟩
mutual
def Ri (a:Nat):Pt->List Nd
 |.mk d i g Ab _ _ _=>(⟨(a:Int),d,0,S.B i,S.B g⟩:Nd)::Et (a+1) Ab
def Et (a:Nat):List Pt->List Nd
 |[]=>[]
 |p::f=>Ri a p++Et a f
end
def P6 (a:Nat)(p:Pt):Nd:=⟨(a:Int),p.kind,0,S.B p.info,S.B p.text⟩
theorem zes (a:Nat)(p:Pt):Ri a p=P6 a p::Et (a+1) p.Ab:=by cases p;simp only[Ri];rfl
theorem PW (d:Nat)(a b:List Pt):Et d (a++b)=Et d a++Et d b:=by
 induction a with
 |nil=>simp[Et]
 |cons g h f=>simp only[List.cons_append,Et,f,Qp]
mutual
theorem zbq (a:Nat):∀d:Pt,(Ri a d).length=Kk d
 |.mk k i l Ab _ _ _=>by
  have:=Tp (a+1) Ab;simp only[Ri,Qd,Kk,this];show D5 Ab+1=1+D5 Ab;omega
theorem Tp (a:Nat):∀f:List Pt,(Et a f).length=D5 f
 |[]=>by simp[Et,Kk.D5]
 |d::j=>by
  have g:=zbq a d;have h:=Tp a j;simp only[Et,Qa,g,h,Kj]
end
theorem zc1 (N:Nat):∀(A:List Pt),D5 A<=N->∀(B:Nat) (F:Nat->Prop) (z kl:So) (j:So) (k:Nat) (f:List Nd) (d:Nat) (w:Sw),B<=w.heap.size->Bl B j k f w->(f++Et d A).length<=1000000->d+N<=1000000->Ce w F z A->(∀a,F a->a<w.heap.size/\some a≠(Value.slice j f.length k).ownBlock) ->
  Calls prog 83 #[.slice j f.length k,.agg #[.pointer z,.pointer kl],d] w (Laid B (Value.slice j f.length k).ownBlock (f++Et d A) w):=by
 induction N using Nat.strongRecOn with
 |_ N b4=>
 intro A bg B F z kl j k f d w b6 a7 bo hd bl bd;obtain⟨i0,cg,cv,cw,cx⟩:=info_parts Tryz.Yf;have a2:Below w w (w.alloc (.cells #[.pointer z,.pointer kl] 135)):=Sr.alloc (Qc _) _;have b8:=V (U3 w 0 (.pointer z) (w.alloc (.cells #[.pointer z,.pointer kl] 135)) (X (Ak _ _) 0 _ rfl) ⟨_,rfl⟩);have c8:=V a7.lt;have b1:U (Bl B j k f (w.alloc (.cells #[.pointer z,.pointer kl] 135))/\w.grownBy (w.alloc (.cells #[.pointer z,.pointer kl] 135)) (Value.slice j f.length k).ownBlock):=V ⟨Bl.below a7 a2,Tn a2 _⟩;have ci:=V bl;have K:=V bd;have cy:=V b4;have cl:=V bo;have cb:=V bg;clear a7 a2 bl bd b4 bo bg;go_enter func83,ntmps83;go_wp2_with fail
 apply b8.m;rintro e di⟨rfl,rfl⟩;go_wp2;go_loopg [0,7] A.length (λcz c0 c1 wr=>∃(r rs:List Pt) (D:So) (E:Nat) (bb:So) (ao:Nat),c1=.pointer bb/\c0=.slice D ao E/\U (A=r++rs/\rs.length=cz/\ao=(f++Et d r).length/\Bl B D E (f++Et d r) wr/\w.grownBy wr (Value.slice j f.length k).ownBlock/\(∀m,(Value.slice D (f++Et d r).length E).ownBlock=some m->(Value.slice j f.length k).ownBlock=some m\/w.heap.size<=m)/\Ce w F bb rs))
 case atStart=>
  refine⟨[],A,j,k,z,f.length,rfl,rfl,V ⟨rfl,rfl,by simp[Et],?_,b1.q.2,?_,ci.q⟩⟩;·simpa [Et]using b1.q.1
  intro m cf;left;simpa [Et]using cf
 case round=>
  obtain⟨r,rs,D,E,bb,ao,rfl,rfl,bw⟩:=hrel;obtain⟨v,ab,am,L,q,u,ck⟩:=bw.q;clear bw;cases ck with
  |nil=>
   have ce:U (Laid B (Value.slice j f.length k).ownBlock (f++Et d A) w (.returned (.slice D ao E)) wr):=V (by
    rw[Qbk]at v;subst v;exact⟨D,E,by rw[am],L,q,u⟩)
   clear v ab am L q u;go_wp2;go_ret;exact ce.q
  |cons e af G b5 ah a1 T an=>
   have Q:=K.q e.m ah;have p:wr.heap[e.m]?=some (.cells (Jc e af G).toArray 179 (0,0)):=(q.block e.m Q.1 Q.2).trans a1;have cp:e.m<wr:=Qh Q.1 q.size;obtain⟨y,a5⟩:∃a,e.p.kind=a:=⟨_,rfl⟩;obtain⟨x,a4⟩:∃a,S.B e.p.info=a:=⟨_,rfl⟩;obtain⟨C,ba⟩:∃a,S.B e.p.text=a:=⟨_,rfl⟩;obtain⟨h,W⟩:=Qyy (e.m);obtain⟨P,a6⟩:∃a,e.kf=a:=⟨_,rfl⟩;obtain⟨ac,bn⟩:∃a,e.kl=a:=⟨_,rfl⟩;obtain⟨ar,bz⟩:∃a:Int,(e.p.rs:Int)=a:=⟨_,rfl⟩;obtain⟨ro,bx⟩:∃a,e.p.ro=a:=⟨_,rfl⟩;obtain⟨rc,bv⟩:∃a,e.p.rc=a:=⟨_,rfl⟩;have cq:U (P6 d e.p=⟨(d:Int),y,0,x,C⟩):=V (by unfold P6;rw[a5,a4,ba]);have bj:Jc e af G=[.int .i64 y,.string x,.string C,.pointer P,.pointer ac,.int .i64 ar,.bool ro,.bool rc,.pointer af,.pointer G]:=by
    unfold Jc;rw[a5,a4,ba,a6,bn,bz,bx,bv]
   rw[bj,W]at p;rw[W]at cp;have c9:wr.cell? h=some (.int .i64 y):=X p 0 _ rfl;have da:wr.cell? (h 1)=some (.string x):=X p 1 _ rfl;have db:wr.cell? (h 2)=some (.string C):=X p 2 _ rfl;have dc:wr.cell? (h 3)=some (.pointer P):=X p 3 _ rfl;have dd:wr.cell? (h 4)=some (.pointer ac):=X p 4 _ rfl;have de:wr.cell? (h 5)=some (.int .i64 ar):=X p 5 _ rfl;have df:wr.cell? (h 6)=some (.bool ro):=X p 6 _ rfl;have dg:wr.cell? (h 7)=some (.bool rc):=X p 7 _ rfl;have dh:U (wr.cell? (h 9)=some (.pointer G)):=V (X p 9 _ rfl);have b3:(some e.ad:So)=some ⟨h,0,none⟩:=by rw[Mem.ad,W]
   obtain⟨l,ag⟩:=Qzz (f++Et d r);rw[<-ag]at am L u;subst am;have c5:l.length+1+D5 e.p.Ab<=1000000:=by
    have:=cl.q;rw[v,PW,<-Qp,<-ag,Qa,Tp,Kj,Ua]at this;omega
   have cd:D5 e.p.Ab<N:=by
    have:=cb.q;rw[v,CV,Kj,Ua]at this;omega
   have ct:=V (λap aq=>Bl.alloc (Bl.alloc L ap) aq);have cn:=V L.lt;have ai:=V (And.intro v (And.intro ab (And.intro q (And.intro u (And.intro T an)))));have ca:=V ag;have cj:=V a6;have al:=V Q;have bs:=V W;have cc:=V p;have c4:B<=wr:=Qj b6 q.size;have c7:=V a1;have c6:w<=wr.heap.size:=q.size;clear v ab L q u T an a1 p Q bj a5 a4 ba bn bz bx bv a6 ag W;rw[b3];clear b3;have cr:U (∀ae M H,(Cg ⟨(d:Int),y,0,x,C⟩)[M]?=some H->((wr.alloc ae).alloc (.cells #[d,y,O,x,C] 36)).cell? ((((wr:Nat)+1) 0:Addr).add M)=some H):=V (by
    intro ae M H ch;have cu:(wr.alloc ae).heap.size=(wr:Nat)+1:=Y;have ah:(((wr:Nat)+1) 0:Addr).add M=⟨(wr.alloc ae).heap.size,M,none⟩:=by
     rw[cu];simp only[Addr.add];split;·rename_i g;simp<;>omega
     simp<;>omega
    rw[ah];exact X (Ak _ _) M H (by rw[<-ch];simp[Cg]))
   have cs:U (∀H∈Cg ⟨(d:Int),y,0,x,C⟩,H.oneCell'=true):=V (by
    intro H b2;simp[Cg]at b2;rcases b2 with rfl|rfl|rfl|rfl|rfl<;>rfl)
   go_wp2_with (at_builtin;refine wpList_append_lies _ I _ _ 22 I B 36 i0 (.agg #[O,O,O,(),()]) 5 56 underlying22 cg cv cw cx I Z (.slice D l.length E) l.length (Ck l) I (ct.q _ _) (((wr:Nat)+1) 0) 1 1 (Cg ⟨(d:Int),y,0,x,C⟩) I I (cr.q _) cs.q Z (by unfold maxLen;omega) Z (by simp;omega) ((wr:Nat)+1+1) Y ?_)
   intro m bc t bu ak bh cm;have b0:=ak.size;have a9:∀ap aq,((wr.alloc ap).alloc aq).heap.size=(wr:Nat)+2:=by intro ap aq;simp
   rw[a9]at b0;have az:t.heap[wr.heap.size]?=some (.cells #[y,x,C,.pointer P,.pointer ac,ar,ro,rc] 177 (0,0)):=by
    rw[ak.block wr (by rw[a9];omega) (λe=>by have:=cn.q _ e.symm;omega),Sqj _ _ _ Y];exact Ak _ _
   have dk:=X az 3 _ rfl;have dl:=X az 4 _ rfl;have bk:wr.grownBy t (Value.slice D l.length E).ownBlock:=Jk (Jk (World.grownBy_alloc _ _ _) (World.grownBy_alloc _ _ _) (λm g=>.inl g)) ak (λm g=>.inl g);obtain⟨v,ab,q,u,T,an⟩:=ai.q;have R:w.grownBy t (Value.slice j f.length k).ownBlock:=Jk q bk u;have a0:∀o,(some m:Option Nat)=some o->(Value.slice j f.length k).ownBlock=some o\/w.heap.size<=o:=λo g=>by
    have:m=o:=(by simpa using g);subst this;rcases bh with g|g
    ·exact u _ g
    exact .inr Z
   have ax:∀a,F a->a<t.heap.size/\some a≠(some m:Option Nat):=λa s=>⟨Qh (K.q a s).1 R.size,λg=>by
    have:a=m:=(by simpa using g);subst this;rcases a0 a rfl with g|g
    ·exact(K.q a s).2 g.symm
    have:=(K.q a s).1;omega⟩
   have bm:Ce t F P e.p.Ab:=by
    rw[<-cj.q];exact T.move (λa s=>s) (λa s=>R.block a (K.q a s).1 (K.q a s).2)
   have aa:Bl B (some ⟨m,0,none⟩) bc (l++[P6 d e.p]) t:=by
    unfold Bl;rw[DW,Qa,cq.q];exact bu
   have ay:=cy.q (D5 e.p.Ab) cd e.p.Ab (Qc _) B F P ac (some ⟨m,0,none⟩) bc (l++[P6 d e.p]) (d+1) t Z aa (by rw[Qa,Qa,Tp];simp only[List.length_singleton];omega) Z bm (λa s=>ax a s);rw[show (l++[P6 d e.p]).length=l.length+1 by simp,show ((d+1:Nat):Int)=(d:Int)+1 by omega]at ay;have b9:=V ay;have bq:t.heap[h]?=some (.cells [.int .i64 y,.string x,.string C,.pointer P,.pointer ac,.int .i64 ar,.bool ro,.bool rc,.pointer af,.pointer G].toArray 179 (0,0)):=by
    rw[<-cc.q,<-bs.q,R.block _ al.q.1 al.q.2,q.block _ al.q.1 al.q.2]
   have bt:h<t.heap.size/\some h≠(some m:Option Nat):=by rw[<-bs.q];exact ax _ ah
   have co:=V bq;have bf:U ((l++[P6 d e.p])++Et (d+1) e.p.Ab=f++Et d (r++[e.p])):=V (by
    rw[PW,ca.q];simp only[Et,zes,Qbk,Qp,List.cons_append,List.nil_append])
   have aj:=V (And.intro R a0);have bp:U (((l++[P6 d e.p])++Et (d+1) e.p.Ab).length=l.length+1+D5 e.p.Ab):=V (by rw[Qa,Qa,Tp];rfl);clear bu ak bh cm az b0 a9 bk v ab q u T an R a0 ax bm aa ay bq;go_wp2_with (fail);apply b9.m;rintro c2 au⟨av,aw,rfl,aa,a3,bi⟩;rw[bp.q];have br:au.heap[h]?=t.heap[h]?:=a3.block h bt.1 bt.2;have b7:=V (Oz h (.pointer G) au (X (br.trans co.q) 9 _ rfl) ⟨_,rfl⟩);have a8:U (Bl B av aw (f++Et d (r++[e.p])) au/\w.grownBy au (Value.slice j f.length k).ownBlock/\(∀o,(Value.slice av (f++Et d (r++[e.p])).length aw).ownBlock=some o->(Value.slice j f.length k).ownBlock=some o\/w.heap.size<=o)):=V (by
    rw[<-bf.q];refine⟨aa,Jk aj.q.1 a3 (λo g=>aj.q.2 o (by simpa [Value.ownBlock]using g)),λo g=>?_⟩;rcases bi o g with g|g
    ·exact aj.q.2 o (by simpa [Value.ownBlock]using g)
    exact .inr (Qj aj.q.1.size g))
   clear aa a3 bi br;go_wp2_with (fail);apply b7.m;rintro c3 dj⟨rfl,rfl⟩;go_wp2;go_roundg b5.length
   case rel=>
    refine⟨r++[e.p],b5,av,aw,G,_,rfl,rfl,V ⟨by rw[ai.q.1];simp,rfl,?_,a8.q.1,a8.q.2.1,a8.q.2.2,ai.q.2.2.2.2.2⟩⟩;rw[<-bf.q,bp.q]
   case measure=>
    have:=ai.q.2.1;simp at this;omega
def Tag (w:Sw)(d:Nat):Prop:=∃a:Array Value,w.heap[d]?=some (.cells a 179 (0,0))
theorem Ce.tag {w:Sw}{A:Nat->Prop}{a:So}{ps:List Pt}(h:Ce w A a ps):Ce w (Tag w) a ps:=by
 induction h with
 |nil=>exact .nil
 |cons e f g l m d o p j k=>exact .cons e f g l ⟨_,d⟩ d j k
theorem Tag.lt {w:Sw}{d:Nat}(a:Tag w d):d<w:=by
 obtain⟨f,a⟩:=a;exact(Qq.1 a).1
theorem Tag.ne {w:Sw}{f g T:Nat}{cs:Array Value}(a:Tag w f)(d:w.heap[g]?=some (.cells cs T (0,0)))(h:T≠179):f≠g:=by
 rintro rfl;obtain⟨j,a⟩:=a;rw[a]at d;simp only[Option.some.injEq,Obj.cells.injEq]at d;exact h d.2.1.symm
theorem Ce.retag {w w':Sw}{a:So}{ps:List Pt}(f:Ce w (Tag w) a ps)(g:∀d,Tag w d->w'.heap[d]?=w.heap[d]?):Ce w' (Tag w') a ps:=
 (f.move (λ_ h=>h) g).tag
theorem zm8 (C:Nat)(d:Sb)(w:Sw)(k:d.size<=1000000)(a:w.heap[C]?=some (.cells #[d,O,O,.pointer none,.pointer none,Sx] 168 (0,0)))(j:Env w)(g:EU C):At C d w Ki w:=by
 refine⟨⟨[],none,0,λ_=>False,?_,rfl⟩,Sr,j,g,Qt _⟩;refine⟨⟨trivial,⟨a,by show 3+1<6;omega⟩,List.nodup_nil,by simp[Ad]⟩,λe h=>by simp at h,λ_ a=>a.elim,Sqg _ _ _ _,λf a=>by simp[Ad]at a,λf a=>by simp[Ad]at a,λf a=>by simp[Ki]at a,List.Pairwise.nil,Qc _,Qt _,k,Qc _,λf a=>by simp at a⟩
theorem GA (f:Sb)(w:Sw)(an:f.size<=1000000)(q:Env w):Calls prog 80 #[f] w λe D=>
   ∃Q kl,e=.returned (.agg #[.pointer Q,.pointer kl])/\Ce D (Tag D) Q (Ey f)/\Below w w D:=by
 obtain⟨g,k⟩:=Qzz ((w.alloc (.cells #[.pointer none,.pointer none] 135)).alloc (.cells #[f,O,O,.pointer none,.pointer none,Sx] 168));have P:(w.alloc (.cells #[.pointer none,.pointer none] 135)).heap.size=(w:Nat)+1:=Y;have ao:g.heap.size=(w:Nat)+2:=by rw[k];simp
 have E:g.heap[(w:Nat)+1]?=some (.cells #[f,O,O,.pointer none,.pointer none,Sx] 168 (0,0)):=by rw[k,<-P];exact Ak _ _
 have G:g.heap[w.heap.size]?=some (.cells #[.pointer none,.pointer none] 135 (0,0)):=by rw[k,Sqj _ _ _ Y];exact Ak _ _
 have u:Below w w g:=by rw[k];exact(Sr.alloc (Qc _) _).alloc Y _
 have af:=V (zjm ((w:Nat)+1) f Ki g (zm8 _ f g an E (q.below u) ⟨Nat.lt_succ_of_lt q.2.2.1,Nat.lt_succ_of_lt q.2.2.2⟩));have ah:=V G;have ak:=V u;have ap:=V k;clear E G u P ao k q;go_enter func80,ntmps80;go_wp2_with fail
 rw[<-ap.q];apply af.m;rintro e r⟨rfl,a0,t,F⟩;obtain⟨R,a1,a2,W,hcut,N⟩:=t.cut;have K:=hcut.above;have ai:=V (GX ((w:Nat)+1) 3 168 _ R W r hcut.ch hcut.Ab (λa d=>⟨(hcut.dead a d).1,(hcut.dead a d).2.1⟩) (by have:=hcut.bytes;have:=hcut.fk;have:=hcut.kl;have:=hcut.small;omega) hcut.runs);have L:=V hcut;have ac:=V t;have ae:U (Ey f=He (R.map Mem.p)):=V (by
  rw[N];exact Ut _ _ (by rw[S.El];exact F))
 have aj:=V K;clear t F hcut N K;go_wp2_with fail
 apply ai.m;rintro e m⟨C,aa,rfl,j⟩;have x:Below ((w:Nat)+1) g r:=ac.q.below;have y:Below ((w:Nat)+1) r m:=j.fr.below (by have:=L.q.lt;omega) (λa d=>by
  rcases Sc.1 d with rfl|d
  ·exact Qc _
  exact Sm (aj.q a d))
 have o:=(y.block w Z).trans ((x.block w Z).trans ah.q);have p:=j.ch.hdr.1;obtain⟨h,A⟩:=Qyy (hd C none);obtain⟨l,M⟩:=Qyy (A9 C none);rw[A,M]at p;have aw:m.cell? (((w:Nat)+1) 3)=some (.pointer h):=X p 3 _ rfl;have ax:m.cell? (((w:Nat)+1) 4)=some (.pointer l):=X p 4 _ rfl;have ay:=X o 0 _ rfl;have az:=X o 1 _ rfl;have au:=Av o;have H:=V o;have al:U (Below w w m):=V (ak.q.trans ((x.mono (Nat.le_succ _)).trans (y.mono (Nat.le_succ _))));have av:U ((w:Nat)+1<r.heap.size):=V (by have:=L.q.lt;omega);have ag:U (Ce m (λa=>aa a\/a∈Ad C) h (Ey f)):=V (by
  rw[ae.q,<-j.part,<-A];exact Zz j.ch.seg (λe z=>.inr (List.mem_map.2 ⟨e,z,rfl⟩)) (λe z=>(j.Ab e z).move (λa d=>.inl d) (λ_ _=>rfl)))
 have am:U (∀s:Sw,(∀a,a≠w.heap.size->s.heap[a]?=m.heap[a]?)->Ce s (Tag s) h (Ey f)):=V (λs ab=>
  ag.q.tag.retag (λa d=>ab a (d.ne H.q J)))
 clear x y o p j A M;go_wp2;have T:=Aj (Aj (cs:=[.pointer none,.pointer none]) H.q 0 (.pointer h)) 1 (.pointer l);have aq:=X T 0 _ rfl;have ar:=X T 1 _ rfl;refine Sqk (v:=.agg #[.pointer h,.pointer l]) (by simp[results,results80,go_sem,aq,ar]) rfl ⟨h,l,rfl,am.q _ (λa d=>?_),?_⟩;·rw[Below.heap_setCell _ _ _ _ d,Below.heap_setCell _ _ _ _ d]
 exact Sqh (Sqh al.q Y _) Y _
noncomputable def Jo (c:List UInt8)(a:Nat):List Nd:=Et a (Ey c)
theorem zl2 (c:List UInt8)(a:Nat):(Jo c a).length<=3*c.length:=by
 unfold Jo;rw[Tp];exact UL c
theorem zdp (c:List UInt8)(av:c.length<=300000)(B:Nat)(k ao:Int)(am:So)(ap an:Nat)(n:Int)(info:Sb)(Ai:Bool)(aj:So)(al ak:Nat)(g:Nat)(a:So)(j:Nat)(l:List Nd)(w:Sw)(M:Env w)(ag:k=1\/k=2)(au:B<=w)(F:Bl B a j l w)(P:(l++Jo c g).length<=1000000)(hd:g<=90000):Calls prog 63 #[.slice a l.length j,.agg #[k,ao,.slice am ap an,n,info,(S.B c),Ai,.slice aj al ak],g] w (Laid B (Value.slice a l.length j).ownBlock (l++Jo c g) w):=by
 have K:∀f,Below w w (w.alloc f):=λf=>Sr.alloc (Qc _) _;have E:=V (λf=>GA (S.B c) (w.alloc f) (by rw[S.Bc];omega) (M.alloc f));rw[S.Bq]at E;have L:=UL c;have C:U (∀f h kl d,Ce d (Tag d) h (Ey c)->Below (w.alloc f).heap.size (w.alloc f) d->Calls prog 83 #[.slice a l.length j,.agg #[.pointer h,.pointer kl],g] d (Laid B (Value.slice a l.length j).ownBlock (l++Jo c g) w)):=V (by
  intro f h kl d aa ab;have ax:(w.alloc f).heap.size=(w:Nat)+1:=Y;have v:=(K f).trans (ab.mono Z);have aw:=F.lt;have Q:=F.below v;refine(zc1 (3*c.length) (Ey c) L B (Tag d) h kl a j l g d (by have:=v.size;omega) Q P Z aa (λay R=>⟨R.lt,λe=>?_⟩)).mono ?_
  ·rcases Q.2 with W|⟨u,aq,ar,ai,N,af,_⟩
   ·rw[W.1]at e;simp[Value.ownBlock]at e
   have ae:(Value.slice a l.length j).ownBlock=some u:=by rw[ai];rfl
   rw[ae]at e;exact R.ne af J (by simpa using e)
  rintro e T⟨q,r,ac,m,o,p⟩;exact⟨q,r,ac,m,Jk (Tn v _) o (λu x=>.inl x),λu N=>(p u N).imp id (λx=>Qj v.size x)⟩)
 have ah:U ((l++Jo c g).length=(l++Jo c g).length):=V rfl;clear K F M L P;obtain⟨G,H⟩:=Qzz (l++Jo c g);rw[<-H]at C ⊢;clear H ah;rcases ag with rfl|rfl
 ·go_enter func63,ntmps63;go_wp2_with fail
  refine(E.q _).mono ?_;rintro e d⟨h,kl,rfl,s,t⟩;have D:=V (C.q _ h kl d s t);clear s t;go_wp2_with fail
  apply D.m;rintro e T⟨q,r,rfl,m,o,p⟩;have y:=V m;have z:=V o;have A:=V p;clear m o p;go_wp2;go_ret;exact⟨q,r,rfl,y.q,z.q,A.q⟩
 go_enter func63,ntmps63;go_wp2_with fail
 refine(E.q _).mono ?_;rintro e d⟨h,kl,rfl,s,t⟩;have D:=V (C.q _ h kl d s t);clear s t;go_wp2_with fail
 apply D.m;rintro e T⟨q,r,rfl,m,o,p⟩;have y:=V m;have z:=V o;have A:=V p;clear m o p;go_wp2;go_ret;exact⟨q,r,rfl,y.q,z.q,A.q⟩
def Lx (c:List UInt8):Prop:=c.length<=300000
theorem zhl (c:List UInt8)(g:Lx c):Xv c (Jo c):=
 λB o v t x u n info Ai p r q f a d s w j k h m l hd=>zdp c g B o v t x u n info Ai p r q f a d s w j k h m l hd
namespace S
theorem znw (o p:List (List UInt8)->List Ac×Bool)(kind:UInt8)(N h:Nat)(q:∀g,bytes g<N->o g=p g)(f:Nat)(l:List UInt8)(r:List (List UInt8))(v:(Ae l).ok=true)(s:bytes (l::r)<=N):Bt o kind h f (Ae l) (l::r)=Bt p kind h f (Ae l) (l::r):=by
 induction f generalizing l r with
 |zero=>rfl
 |succ f x=>
  rw[Kv,Kv,q _ (Qh (MO l r v) s)];obtain⟨d,u⟩:=Qyy ((Ay (Ae l) (l::r)).length+Az ((l::r).drop (Ay (Ae l) (l::r)).length));rw[u];by_cases a:(Cj kind ((l::r).drop d)).ok=true
  ·cases hd:(l::r).drop d with
   |nil=>rw[hd]at a;simp[Cj]at a
   |cons k m=>
    rw[hd]at a;have j:=O6 kind k m a;have t:=Nw (l::r) d;rw[hd]at t;rw[j.1,x k m j.2.2 Z]
  rw[if_neg a,if_neg a]
theorem VP (l m:List (List UInt8)->List Ac×Bool)(N:Nat)(o:∀a,bytes a<N->l a=m a)(row:List (List UInt8))(p:bytes row<=N):A8 l row=A8 m row:=by
 cases row with
 |nil=>rfl
 |cons a q=>
  unfold A8;dsimp only;by_cases g:4<=Ap a
  ·rw[if_pos g,if_pos g]
  rw[if_neg g,if_neg g];by_cases h:Ea a=true
  ·rw[if_pos h,if_pos h]
  rw[if_neg h,if_neg h];by_cases j:0<En a
  ·rw[if_pos j,if_pos j]
  rw[if_neg j,if_neg j];by_cases k:(Bp a).ok=true
  ·rw[if_pos k,if_pos k]
  rw[if_neg k,if_neg k];by_cases d:Cz a=true
  ·rw[if_pos d,if_pos d,o _ (Qh (FB a q d) p)]
  rw[if_neg d,if_neg d];by_cases f:(Ae a).ok=true
  ·rw[if_pos f,if_pos f,Lp,Lp,znw l m _ N _ o _ a q f p]
  rw[if_neg f,if_neg f]
theorem zia (f g:List (List UInt8)->List Ac×Bool)(N j:Nat)(l:∀h,bytes h<N->f h=g h)(a:Nat)(row:List (List UInt8))(k:bytes row<=N):rowFrom f j a row=rowFrom g j a row:=by
 induction a generalizing row with
 |zero=>rfl
 |succ a m=>
  by_cases d:row=[]
  ·subst d;rw[K6,K6]
  rw[Mf _ _ _ _ d,Mf _ _ _ _ d,VP f g N l row k];rw[m _ (Qj (Nw _ _) k)]
theorem zic (f a:Nat)(row:List (List UInt8))(j:bytes row<f)(k:bytes row<a):Ag f row=Ag a row:=by
 induction f generalizing a row with
 |zero=>omega
 |succ e g=>
  obtain⟨d,rfl⟩:∃d,a=d+1:=⟨a-1,Z⟩;unfold Ag;exact zia (Ag e) (Ag d) (bytes row) _ (λh l=>g d h Z Z) _ _ (Nw _ _)
theorem JW (l:List UInt8):bytes (Aw l)<=l.length:=by
 unfold Aw;split
 ·simp[bytes]
 have a:∀l:List UInt8,bytes (nl l)<=l.length:=by
  intro l;induction l with
  |nil=>simp[nl,bytes]
  |cons c h g=>
   unfold nl;split
   ·simp only[bytes,Qs,List.sum_cons,Qi,Qd]at *;omega
   split<;>simp_all [bytes]<;>omega
 obtain⟨j,f⟩:=JH l;have d:=congrArg List.length f;rw[Qa]at d;have:=a (Lib.trimSuffix l [10]);omega
end S
namespace S
def tt (r:List (List UInt8)):Nat:=bytes r+r.length
theorem GJ:tt []=0:=rfl
theorem Ho (a:List UInt8)(r:List (List UInt8)):tt (a::r)=a.length+1+tt r:=by simp only[tt,bytes,Qs,List.sum_cons,Qd];omega
theorem WK (a b:List (List UInt8)):tt (a++b)=tt a+tt b:=by
 induction a with
 |nil=>simp[GJ]
 |cons g f d=>rw[SB,Ho,Ho,d];omega
theorem L6 (r:List (List UInt8))(n:Nat):tt (r.take n)+tt (r.drop n)=tt r:=by rw[<-WK,Sy]
theorem Mt (r:List (List UInt8))(n:Nat):tt (r.take n)<=tt r:=by have:=L6 r n;omega
theorem Uo (r:List (List UInt8))(m n:Nat)(a:m<=n):tt (r.take m)<=tt (r.take n):=by
 have:=Mt (r.take n) m;rwa [List.take_take,SI a]at this
theorem OI (r:List (List UInt8))(a b:Nat):tt (r.take (a+b))=tt (r.take a)+tt ((r.drop a).take b):=by
 rw[List.take_add,WK]
mutual
def Gx:Ac->Nat
 |.at_ _ a _ _ f _ Ab=>1+(if a=1\/a=2 then 3*f.length else 0)+Fh Ab
def Fh:List Ac->Nat
 |[]=>0
 |b::d=>Gx b+Fh d
end
theorem BK (row:List (List UInt8)):tt (Bn row)<=tt (row.take (Bn row).length):=by
 induction row with
 |nil=>simp[Bn]
 |cons d g f=>
  simp only[Bn];split
  ·rename_i a;have:=Ws d a;rw[Qd,Qz,Ho,Ho];omega
  simp[GJ]
theorem MX (a:List UInt8)(r:List (List UInt8))(d:Cz a=true):tt (Bn (a::r))+1<=tt ((a::r).take (Bn (a::r)).length):=by
 have f:=BK r;have g:=Ws a d;simp only[Bn,if_pos d];rw[Qd,Qz,Ho,Ho];omega
theorem zky (m:Nat)(r:List (List UInt8)):tt (r.map (λa=>a.drop m))<=tt r:=by
 induction r with
 |nil=>simp
 |cons f r d=>rw[Qs,Ho,Ho,Qf];omega
theorem Yy (l:List UInt8)(r:List (List UInt8))(a:(Ae l).ok=true):tt (Ay (Ae l) (l::r))+1<=tt ((l::r).take (Ay (Ae l) (l::r)).length):=by
 obtain⟨g,h⟩:=AZ l a;unfold Ay;split
 ·rw[List.length_singleton,Qz,List.take_zero,Ho,Ho,GJ];simp only[Qi];omega
 obtain⟨n,f⟩:∃n,Da (Ae l).Ao (l::r)=n+1:=⟨Da (Ae l).Ao (l::r)-1,by have:=Ti (Ae l).Ao (l::r);omega⟩;rw[f,Qz,Qs,Qd,List.length_map,Qz,Ho,Ho,Qf];have j:=zky (Ae l).Ao (r.take n);have d:r.take (r.take n).length=r.take n:=by rw[Ql,<-List.take_take,Qbl]
 rw[d];omega
theorem zcr (g:List (List UInt8)->List Ac×Bool)(x:∀p,Fh (g p).1<=10*tt p)(kind:UInt8)(k d:Nat)(l:List UInt8)(r:List (List UInt8))(v:(Ae l).ok=true):Fh (Bt g kind k d (Ae l) (l::r)).1+9*min d 1<=10*tt ((l::r).take (Bt g kind k d (Ae l) (l::r)).2.2):=by
 induction d generalizing l r with
 |zero=>simp[Bt,Fh]
 |succ d y=>
  have t:=Yy l r v;have A:=x (Ay (Ae l) (l::r));rw[Kv];obtain⟨a,q⟩:=Qyy ((Ay (Ae l) (l::r)).length);obtain⟨h,s⟩:=Qyy (Az ((l::r).drop a));rw[q]at t ⊢;rw[s];have u:min (d+1) 1=1:=Z;rw[u];by_cases j:(Cj kind ((l::r).drop (a+h))).ok=true
  ·rw[if_pos j];cases hd:(l::r).drop (a+h) with
   |nil=>rw[hd]at j;simp[Cj]at j
   |cons f m=>
    rw[hd]at j;have o:=O6 kind f m j;have:=y f m o.2.2;rw[o.1];have e:=OI (l::r) (a+h) (Bt g kind k d (Ae f) (f::m)).2.2;rw[hd]at e;have z:=Uo (l::r) a (a+h) Z;show 1+0+Fh (g (Ay (Ae l) (l::r))).1+Fh (Bt g kind k d (Ae f) (f::m)).1+9*1<=10*tt ((l::r).take (a+h+(Bt g kind k d (Ae f) (f::m)).2.2));rw[e];omega
  rw[if_neg j];show 1+0+Fh (g (Ay (Ae l) (l::r))).1+0+9*1<=10*tt ((l::r).take a);omega
theorem zlo (r:List (List UInt8)):(Df r).length<=tt r:=by
 induction r with
 |nil=>simp[Df]
 |cons d r a=>
  cases r with
  |nil=>rw[Ho];simp only[Df,Qf];omega
  |cons f r=>rw[Ho];simp only[Df,Qa,Qf,Qd]at *;omega
theorem Xc (l:List UInt8):(Fp l).length<=l.length:=by
 have a:=CF l;have d:(F3 l).length<=(Aq l).length:=by
  unfold F3;have:=Ul ((Aq l).drop (cnt 35 (Aq l))) 32;rw[Qf]at this;omega
 unfold Fp;split
 ·have f:=Po (F3 l) 35;have g:=Po (Lib.trimRightB (F3 l) 35) 32;omega
 omega
theorem Vr (row:List (List UInt8)):(Cr row).1.text.length<=tt (row.take (Cr row).2)/\(Cr row).1.Ab=[]:=by
 unfold Cr;dsimp only;have a:=Po (Df (row.take (Dw row.tail+1))) 32;have d:=zlo (row.take (Dw row.tail+1));split
 ·exact⟨by show (Lib.trimRightB _ _).length<=tt (row.take (Dw row.tail+1));omega,rfl⟩
 split
 ·have f:=Uo row (Dw row.tail+1) (Dw row.tail+1+1) Z;exact⟨by show (Lib.trimRightB _ _).length<=tt (row.take (Dw row.tail+1+1));omega,rfl⟩
 exact⟨by show (Lib.trimRightB _ _).length<=tt (row.take (Dw row.tail+1));omega,rfl⟩
theorem zm0 (b:Ac):Gx b=1+(if b.kind=1\/b.kind=2 then 3*b.text.length else 0)+Fh b.Ab:=by cases b;simp only[Gx];rfl
theorem zhy (z:Int)(b:Ac):Gx (b.put z)=Gx b:=by cases b;simp only[Ac.put,Gx]
theorem XK (b:Ac):Gx b<=1+3*b.text.length+Fh b.Ab:=by rw[zm0];split<;>omega
theorem JK (d:List UInt8)(r:List (List UInt8))(n:Nat)(f:1<=n):d.length+1<=tt ((d::r).take n):=by
 obtain⟨a,rfl⟩:∃a,n=a+1:=⟨n-1,Z⟩;rw[Qz,Ho];omega
theorem YZ (f:List (List UInt8)->List Ac×Bool)(g:∀a,Fh (f a).1<=10*tt a)(a:List UInt8)(r:List (List UInt8)):Gx (A8 f (a::r)).1<=10*tt ((a::r).take (A8 f (a::r)).2):=by
 have h:=Tk f a r;have k:=JK a r _ h.1;clear h;obtain⟨j,d⟩:=Qyy (A8 f (a::r));rw[d]at k ⊢;unfold A8 at d;dsimp only at d;split at d
 ·subst d;refine Qj (?_:_<=1) Z;show Gx (.mk 3 0 [] _ false [])<=1;simp[Gx,Fh]
 split at d
 ·subst d;refine Qj (?_:_<=1) Z;simp[Gx,Fh]
 split at d
 ·subst d;have:=Xc a;refine Qj (XK _) ?_;show 1+3*(Fp a).length+0<=_;omega
 split at d
 ·subst d;refine Qj (?_:_<=1) Z;show Gx (.mk 3 0 _ _ false [])<=1;simp[Gx,Fh]
 split at d
 ·rename_i l;subst d;have q:=MX a r l;have s:=g (Bn (a::r));show Gx (.mk 5 0 [] [] false (f (Bn (a::r))).1)<=10*tt ((a::r).take (Bn (a::r)).length);refine Qj (?_:_<=1+Fh (f (Bn (a::r))).1) Z;simp[Gx]
 split at d
 ·rename_i m;subst d;rw[Lp];have o:=zcr f g (Ae a).kind (a::r).length (a::r).length a r m;rw[show min (a::r).length 1=1 by simp]at o;show Gx (.mk 6 _ [] [] _ (Bt f (Ae a).kind (a::r).length (a::r).length (Ae a) (a::r)).1)<=10*tt ((a::r).take (Bt f (Ae a).kind (a::r).length (a::r).length (Ae a) (a::r)).2.2);refine Qj (?_:_<=1+Fh (Bt f (Ae a).kind (a::r).length (a::r).length (Ae a) (a::r)).1) Z;simp[Gx]
 subst d;have p:=Vr (a::r);refine Qj (XK _) ?_;rw[p.2];show 1+3*_+0<=_;omega
theorem zmb (g:List (List UInt8)->List Ac×Bool)(l:∀a,Fh (g a).1<=10*tt a)(j h:Nat)(row:List (List UInt8)):Fh (rowFrom g j h row).1<=10*tt row:=by
 induction h generalizing row with
 |zero=>simp[rowFrom,Fh]
 |succ h o=>
  cases row with
  |nil=>rw[K6];simp[Fh]
  |cons a d=>
   rw[Mf _ _ _ _ Y];have k:=YZ g l a d;obtain⟨f,m⟩:=Qyy ((A8 g (a::d)).2);rw[m]at k ⊢;have p:=o ((a::d).drop (f+Az ((a::d).drop f)));have q:=L6 (a::d) (f+Az ((a::d).drop f));have r:=Uo (a::d) f (f+Az ((a::d).drop f)) Z;show Gx ((A8 g (a::d)).1.put _)+Fh _<=_;rw[zhy];omega
theorem VR (a:Nat)(row:List (List UInt8)):Fh (Ag a row).1<=10*tt row:=by
 induction a generalizing row with
 |zero=>simp[Ag,Fh]
 |succ a d=>
  rw[show Ag (a+1) row=rowFrom (Ag a) row.length row.length (row.drop (Az row)) from rfl];have f:=zmb (Ag a) d row.length row.length (row.drop (Az row));have g:=L6 row (Az row);omega
end S
mutual
theorem zcy (a:Nat):∀b:S.Ac,(Ms Jo a b).length<=S.Gx b
 |.at_ m k n i j l Ab=>by
  have f:=Zv (a+1) Ab;have g:=zl2 j (a+1);simp only[Ms,S.Gx,Qd,Qa];split
  ·omega
  simp only[Qi];omega
theorem Zv (a:Nat):∀d:List S.Ac,(Cw Jo a d).length<=S.Fh d
 |[]=>by simp[Cw,S.Fh]
 |b::h=>by
  have f:=zcy a b;have g:=Zv a h;simp only[Cw,S.Fh,Qa];omega
end
theorem zjl (p:List (List UInt8)->List S.Ac×Bool)(f:Nat)(hd:f+1<=90000)(x:∀q,S.tt q<=300000->Gb Lx (f+2) (p q).1)(kind:UInt8)(s g:Nat)(l:List UInt8)(r:List (List UInt8))(v:(S.Ae l).ok=true)(D:S.tt (l::r)<=300000):Gb Lx (f+1) (S.Bt p kind s g (S.Ae l) (l::r)).1:=by
 induction g generalizing l r with
 |zero=>simpa [S.Bt,Gb]using hd
 |succ g z=>
  have A:=S.Yy l r v;have C:=S.Mt (l::r) (S.Ay (S.Ae l) (l::r)).length;have j:=x (S.Ay (S.Ae l) (l::r)) Z;rw[S.Kv];obtain⟨d,u⟩:=Qyy ((S.Ay (S.Ae l) (l::r)).length+S.Az ((l::r).drop (S.Ay (S.Ae l) (l::r)).length));rw[u];by_cases a:(S.Cj kind ((l::r).drop d)).ok=true
  ·rw[if_pos a];cases h:(l::r).drop d with
   |nil=>rw[h]at a;simp[S.Cj]at a
   |cons m o=>
    rw[h]at a;have k:=S.O6 kind m o a;have y:=S.L6 (l::r) d;rw[h]at y;have:=z m o k.2.2 Z;rw[k.1];simp only[Gb,Oo];exact⟨⟨λt=>Z,j⟩,this⟩
  rw[if_neg a];simp only[Gb,Oo];exact⟨⟨λt=>Z,j⟩,hd⟩
theorem zbi (h:List (List UInt8)->List S.Ac×Bool)(f:Nat)(hd:f+1<=90000)(u:∀a,S.tt a<=300000->Gb Lx (f+1) (h a).1)(v:∀a,S.tt a<=300000->Gb Lx (f+2) (h a).1)(a:List UInt8)(r:List (List UInt8))(m:S.tt (a::r)<=300000):Oo Lx f (S.A8 h (a::r)).1:=by
 have g:Gb Lx (f+1) []:=by simpa [Gb]using hd
 unfold S.A8;dsimp only;split
 ·exact⟨λd=>by have d:(3:Int)=1\/(3:Int)=2:=d;omega,g⟩
 split
 ·exact⟨λd=>by have d:(4:Int)=1\/(4:Int)=2:=d;omega,g⟩
 split
 ·refine⟨λ_=>?_,g⟩;have p:=S.Xc a;rw[S.Ho]at m;show (S.Fp a).length<=300000;omega
 split
 ·exact⟨λd=>by have d:(3:Int)=1\/(3:Int)=2:=d;omega,g⟩
 split
 ·have p:=S.BK (a::r);have q:=S.Mt (a::r) (S.Bn (a::r)).length;exact⟨λd=>by have d:(5:Int)=1\/(5:Int)=2:=d;omega,u _ Z⟩
 split
 ·rename_i s;rw[S.Lp];exact⟨λd=>by have d:(6:Int)=1\/(6:Int)=2:=d;omega,zjl h f hd v _ _ _ a r s m⟩
 have k:=S.Vr (a::r);have q:=S.Mt (a::r) (S.Cr (a::r)).2;obtain⟨b,t⟩:=Qyy ((S.Cr (a::r)).1);rw[t]at k ⊢;obtain⟨z,x,n,i,o,y,Ab⟩:=b;obtain⟨l,j⟩:=k;have j:Ab=[]:=j;subst j;exact⟨λ_=>by have l:o.length<=_:=l;show o.length<=300000;omega,g⟩
theorem zn1 (f:List (List UInt8)->List S.Ac×Bool)(g:Nat)(hd:g+1<=90000)(m:∀a,S.tt a<=300000->Gb Lx (g+1) (f a).1)(o:∀a,S.tt a<=300000->Gb Lx (g+2) (f a).1)(j h:Nat)(row:List (List UInt8))(p:S.tt row<=300000):Gb Lx g (S.rowFrom f j h row).1:=by
 induction h generalizing row with
 |zero=>simp only[S.rowFrom,Gb];omega
 |succ h q=>
  cases row with
  |nil=>rw[S.K6];simp only[Gb];omega
  |cons a d=>
   rw[S.Mf _ _ _ _ Y];have k:=zbi f g hd m o a d p;have r:=S.L6 (a::d) ((S.A8 f (a::d)).2+S.Az ((a::d).drop (S.A8 f (a::d)).2));have l:=q ((a::d).drop ((S.A8 f (a::d)).2+S.Az ((a::d).drop (S.A8 f (a::d)).2))) Z;exact⟨(zgp _ _ _ _).2 k,l⟩
theorem zdx (e:Nat)(row:List (List UInt8))(a:Nat)(hd:a+2*e<=80000)(j:S.tt row<=300000):Gb Lx a (S.Ag e row).1:=by
 induction e generalizing row a with
 |zero=>simp only[S.Ag,Gb];omega
 |succ e g=>
  rw[show S.Ag (e+1) row=S.rowFrom (S.Ag e) row.length row.length (row.drop (S.Az row)) from rfl];have h:=S.L6 row (S.Az row);exact zn1 (S.Ag e) a Z (λf d=>g f (a+1) Z d) (λf d=>g f (a+2) Z d) _ _ _ Z
noncomputable def Lr (l:List UInt8):List Nd:=Cw Jo 0 (S.Ag (l.length+1) (S.Aw l)).1
theorem S.TK (l:List UInt8):(S.Aw l).length<=l.length+1:=by
 unfold S.Aw;split
 ·simp
 rw[S.IK];obtain⟨g,d⟩:=S.JH l;have a:=congrArg List.length d;rw[Qa]at a;have f:(Lib.trimSuffix l [10]).count 10<=(Lib.trimSuffix l [10]).length:=List.count_le_length;omega
theorem S.L8 (l:List UInt8):S.tt (S.Aw l)<=2*l.length+1:=by
 have a:=S.TK l;have d:=S.JW l;unfold S.tt;omega
theorem OE (l:List UInt8):(Lr l).length<=10*(2*l.length+1):=by
 have a:=S.L8 l;have d:=S.VR (l.length+1) (S.Aw l);have f:=Zv 0 (S.Ag (l.length+1) (S.Aw l)).1;unfold Lr;omega
theorem JV (s:Sb)(w:Sw)(k:s.size<=1500)(j:Env w):Calls prog 14 #[s] w λe g=>∃B d f,e=.returned (.tuple #[.slice d (Lr s).length f,O])/\w.heap.size<=B/\Bl B d f (Lr s) g/\Below w w g:=by
 have h:=S.L8 s;have a:=OE s;rw[S.lda]at h a;have:=zf5 Lx Jo zhl s w k j _ rfl (zdx (s.size+1) _ 0 Z Z) (by
  unfold Lr at a;rw[S.lda]at a;omega)
 unfold Lr;rw[S.lda];exact this
theorem Z7 {B:Nat}{a:So}{k:Nat}{l:List Nd}{w:Sw}(j:Bl B a k l w)(i:Nat)(f:Nd)(g:l[i]?=some f):∃d,a=some ⟨d,0,none⟩/\B<=d/\d<w.heap.size/\w.cell? ⟨d,i*5,none⟩=some (.int .i64 f.depth)/\w.cell? ⟨d,i*5+1,none⟩=some (.int .i64 f.kind)/\w.cell? ⟨d,i*5+2,none⟩=some (.int .i64 f.n)/\w.cell? ⟨d,i*5+3,none⟩=some (.string f.info)/\w.cell? ⟨d,i*5+4,none⟩=some (.string f.text):=by
 have p:0<l.length:=by have:=(Qb.1 g).1;omega
 obtain⟨d,rfl,m,q,h⟩:=j.some p;have o:=(World.ownsRow.lt j d rfl).2;refine⟨d,rfl,m,o,?_,?_,?_,?_,?_⟩;·have:=h i 0 f _ g Z rfl;rw[Nat.mul_comm]at this;exact this
 ·have:=h i 1 f _ g Z rfl;rw[Nat.mul_comm]at this;exact this
 ·have:=h i 2 f _ g Z rfl;rw[Nat.mul_comm]at this;exact this
 ·have:=h i 3 f _ g Z rfl;rw[Nat.mul_comm]at this;exact this
 have:=h i 4 f _ g Z rfl;rw[Nat.mul_comm]at this;exact this
