import Derived.Test.YtlojgpkajkedeaaGreatDoorNRU
import Derived.Test.YtlojgpkajkedeaaGreatDoorNRH
import Derived.Test.YtlojgpkajkedeaaGreatDoorNRN
set_option maxHeartbeats 16000000
set_option maxRecDepth 100000
namespace Go.Proofs.YtlojgpkajkedeaaGreatDoor
open Go.RowKit Go.Proofs.Tryz
def grvV (p n:Nat):Option Nat->Nat
 | some K=>p+K+n
 | none=>0
def grv (l:List UInt8)(p:Nat):Nat:=grvV p (S.cnt 96 (l.drop p)) (S.ze9 (l.drop p) (S.cnt 96 (l.drop p)))
theorem S.zr6 (n f f2:Nat)(l:List UInt8)(k:Nat)(h:l.length<f)(h2:l.length<f2):S.zbv n f l k=S.zbv n f2 l k:=by
 induction f generalizing f2 l k with
 | zero=>omega
 | succ f ih=>
  obtain⟨f2,rfl⟩:∃x,f2=x+1:=⟨f2-1,by omega⟩;cases l with
  | nil=>rfl
  | cons b r=>
   simp only[S.zbv];simp only[Qd] at h h2;by_cases hb:b=96
   ·have hc:1<=S.cnt 96 (b::r):=(by rw[hb];simp[S.cnt]);rw[if_pos hb,if_pos hb];by_cases hn:S.cnt 96 (b::r)=n
    ·rw[if_pos hn,if_pos hn]
    ·rw[if_neg hn,if_neg hn];exact ih _ _ _ (by rw[Qf,Qd];omega) (by rw[Qf,Qd];omega)
   ·rw[if_neg hb,if_neg hb];exact ih _ _ _ (by omega) (by omega)
theorem zrt (s:ByteArray)(p:Nat)(w:World)(hs:s.size<=1000000)(hp:p<s.size)(hc:s[p]=96):Calls prog 135 #[.string s,.int .i64 (p:Nat)] w λe w'=>e=.returned (.int .i64 (grv s.data.toList p:Nat))/\w=w':=by
 obtain⟨n,hn⟩:=Qyy (S.cnt 96 (s.data.toList.drop p));obtain⟨v,hv⟩:=Qyy (S.ze9 (s.data.toList.drop p) n);have hM0:=zdl s p 96 w hs (by omega);rw[hn] at hM0;have hM:Hid (Calls prog 126 #[.string s,.int .i64 (p:Nat),.int .u8 96] w λe w'=>e=.returned (.int .i64 (n:Nat))/\w=w'):=hid (hM0.mono (λe w' ⟨h1,h2⟩=>⟨h1,h2.symm⟩));have hn1:1<=n:=by
  have hg:=S.zad s p hp;obtain⟨hl',hx'⟩:=Qb.1 hg;rw[<-hn,Qm hl',hx',hc];simp[S.cnt]
 have hnl:p+n<=s.size:=by rw[<-hn];have:=S.zd3 96 (s.data.toList.drop p);rw[Qf,S.lda] at this;omega
 have hres:Hid (grv s.data.toList p=grvV p n v):=hid (by unfold grv;rw[hn,hv]);have hst:Hid (S.zbv n (s.size+1) (s.data.toList.drop (p+n)) n=v):=hid (by
  rw[<-hv];unfold S.ze9;rw[Qbb];exact S.zr6 n _ _ _ _ (by rw[Qf,S.lda];omega) (by rw[Qf,Qf,S.lda];omega))
 have dh:IntKind.i64.wrap ((p:Int)+(n:Int))=((p+n:Nat):Int):=by rw[IntKind.wrap_i64];omega
 clear hn hv hM0 hc;go_enter func135,ntmps135;go_wp2_with fail
 refine hM.out.mono ?_;rintro e w'⟨rfl,rfl⟩;go_upto_region 3 with fail
 go_loop [6,7] (λi _=>∃T k f:Nat,T=p+k/\n<=k/\T<=s.size/\i=.int .i64 (T:Nat)/\s.size-T<f/\Hid (S.zbv n f (s.data.toList.drop T) k=v)) (λi _=>s.size-(intOf i).toNat)
 case atStart=>exact⟨p+n,n,s.size+1,rfl,Qc _,hnl,by go_num,by omega,hst⟩
 case round=>
  obtain⟨T,k,f,hT,hsk,hk,rfl,hf,hsp⟩:=hrel;have fq:=hid hT;clear hT dh;obtain⟨f',rfl⟩:∃f',f=f' + 1:=⟨f-1,by omega⟩;by_cases hlt:T<s.size
  ·have hg:=S.zad s T hlt;have hdr:Hid (s.data.toList.drop T=s[T]::s.data.toList.drop (T+1)):=hid (by
    obtain⟨hl',hx'⟩:=Qb.1 hg;rw[Qm hl',hx'])
   have hJ:(T:Int)<(s.size:Int):=by omega
   obtain⟨g,hgv⟩:=Qyy (S.cnt 96 (s.data.toList.drop T));have hM1:=zdl s T 96 w hs (by omega);rw[hgv] at hM1;have hM2:Hid (Calls prog 126 #[.string s,.int .i64 (T:Nat),.int .u8 96] w λe w'=>e=.returned (.int .i64 (g:Nat))/\w=w'):=hid (hM1.mono (λe w' ⟨h1,h2⟩=>⟨h1,h2.symm⟩));have hgl:T+g<=s.size:=by rw[<-hgv];have:=S.zd3 96 (s.data.toList.drop T);rw[Qf,S.lda] at this;omega
   obtain⟨mx,hmx⟩:=Qyy (max 1 g);have gq:max (1:Int) (g:Int)=(mx:Int):=by omega
   have dx:T+mx<=s.size:=by omega
   have hstep:Hid ((if g=n then some k else S.zbv n f' (s.data.toList.drop (T+mx)) (k+mx))=v):=hid (by
    have:=hsp.out;rw[hdr.out] at this;simp only[S.zbv] at this;by_cases hx:s[T]=96
    ·have hg1:1<=g:=(by rw[<-hgv,hdr.out,hx];simp[S.cnt]);rw[if_pos hx,<-hdr.out,hgv,Qbb] at this;rw[show mx=g by omega];exact this
    ·have hg0:g=0:=(by rw[<-hgv,hdr.out];simp[S.cnt,hx]);rw[if_neg hx] at this;rw[if_neg (by omega),show mx=1 by omega];exact this)
   have bg:=hid hmx;clear hg hgv hM1 hsp hmx;by_cases hgs:g=n
   ·subst hgs;have hvk:Hid (v=some k):=hid (by rw[<-hstep.out,if_pos rfl]);clear hstep;have hr2:Hid (grv s.data.toList p=T+g):=hid (by rw[hres.out,hvk.out,fq.out];rfl);go_wp2_with (fail);refine hM2.out.mono ?_;rintro e w'⟨rfl,rfl⟩;go_wp2;go_ret;exact⟨zak (by rw[hr2.out];go_num),rfl⟩
   ·have hgb:(((g:Nat):Int) == ((n:Nat):Int))=false:=(by rw[Qe];omega);have dw:Hid (S.zbv n f' (s.data.toList.drop (T+mx)) (k+mx)=v):=hid (by rw[<-hstep.out,if_neg hgs]);clear hstep hgs;go_wp2_with (fail);refine hM2.out.mono ?_;rintro e w'⟨rfl,rfl⟩;go_wp2;exact⟨⟨T+mx,k+mx,f',by have:=fq.out;omega,by omega,dx,by go_num,by have:=bg.out;omega,dw⟩,by simp[intOf];have:=bg.out;omega⟩
  ·have hr2:Hid (grv s.data.toList p=0):=hid (by
    have:=hsp.out;rw[Qw (by rw[S.lda];omega)] at this;rw[hres.out,<-this];rfl)
   have hJ:¬(T:Int)<(s.size:Int):=by omega
   clear hsp;go_wp2;go_ret;exact⟨zak (by rw[hr2.out];rfl),rfl⟩
def spc (l:List UInt8):List UInt8:=l.map (λb=>if b=10 then 32 else b)
def znd (l:List UInt8):List UInt8:=if 1<(spc l).length/\(spc l)[0]?=some 32/\(spc l)[(spc l).length-1]?=some 32/\S.blank (spc l)=false then ((spc l).drop 1).take ((spc l).length-2) else spc l
theorem z1d (l:List UInt8)(k:Nat)(b:UInt8)(h:l[k]?=some b):(spc l).take (k+1)=(spc l).take k++[if b=10 then 32 else b]:=by
 have hk:=(Qb.1 h).1;rw[List.take_add_one];congr 1
 unfold spc;rw[List.getElem?_map,h];rfl
theorem zxc (s:ByteArray)(w:World)(hs:s.size<=1000000):Calls prog 136 #[.string s] w λe w'=>e=.returned (.string (S.B (znd s.data.toList)))/\w=w':=by
 obtain⟨X,hX⟩:=Qyy (spc s.data.toList);have dx:X.length=s.size:=by rw[<-hX];unfold spc;rw[List.length_map,S.lda]
 have hsn:Hid (∀k b,s.data.toList[k]?=some b->X.take (k+1)=X.take k++[if b=10 then 32 else b]):=hid (λk b h=>by rw[<-hX];exact z1d _ k b h)
 have hres:Hid (znd s.data.toList=if 1<X.length/\X[0]?=some 32/\X[X.length-1]?=some 32/\S.blank X=false then (X.drop 1).take (X.length-2) else X):=hid (by unfold znd;rw[hX])
 clear hX;go_enter func136,ntmps136;go_upto_region 3 with fail
 go_loop [3,4] (λt i=>∃k:Nat,k<=s.size/\i=.int .i64 k/\t=.string (S.B (X.take k))) (λ_ i=>s.size-(intOf i).toNat)
 case atStart=>exact⟨0,Qt _,rfl,rfl⟩
 case round=>
  obtain⟨k,hk,rfl,rfl⟩:=hrel;by_cases hlt:k<s.size
  ·have hg:=S.zad s k hlt;have hJ:(k:Int)<(s.size:Int):=by omega
   have hJ0:(0:Int)<=(k:Int):=by omega
   have dw:(k:Int)+1<=(s.size:Int):=by omega
   have hsk:=hsn.out k _ hg;obtain⟨T0,hT0⟩:=Qyy (X.take k);have fq:T0.length<=1000000:=by rw[<-hT0,Ql];omega
   rw[hT0] at hsk ⊢;by_cases hc:s[k]=10
   ·have h1:((s[k].toNat:Int) == 10)=true:=(by simp[hc]);have hcc:Op.stringOp .add (S.B T0) ⟨#[32]⟩=pure (.string (S.B (X.take (k+1)))):=by
     rw[zn2 _ _ (by rw[S.zav];show T0.length+1<=_;omega),hsk,if_pos hc];exact congrArg (λx=>pure (Value.string x)) (by unfold S.B;apply ByteArray.ext;simp[ByteArray.data_append])
    clear hg hc hsk hT0;go_wp2;exact⟨⟨k+1,by omega,by go_num,rfl⟩,by simp[intOf];omega⟩
   ·have h1:((s[k].toNat:Int) == 10)=false:=by
     rw[Qe];intro h;exact hc (Qk.1 (by show s[k].toNat=10;omega))
    have hcc:Op.stringOp .add (S.B T0) (s.extract k (k+1))=pure (.string (S.B (X.take (k+1)))):=by
     rw[zn2 _ _ (by rw[S.zav,ByteArray.size_extract];omega),hsk,if_neg hc];congr 2
     apply ByteArray.ext
     have e:(s.extract k (k+1)).data.toList=[s[k]]:=by
      rw[zd4,Qm (by rw[S.lda];exact hlt),show k+1-k=1 by omega];obtain⟨hl',hx'⟩:=Qb.1 hg;rw[hx'];rfl
     apply Array.toList_inj.1
     rw[ByteArray.data_append,Array.toList_append,e];first|done|rfl
    clear hg hc hsk hT0;go_wp2;exact⟨⟨k+1,by omega,by go_num,rfl⟩,by simp[intOf];omega⟩
  ·have hke:X.take k=X:=Qbj (by omega);rw[hke];obtain⟨R,hR⟩:=Qyy (S.B X);have dh:R.data.toList=X:=by rw[<-hR,S.zaz]
   have hRs:R.size=s.size:=by rw[<-hR,S.zav,dx]
   have bg:=zc7 R w (by omega);rw[dh] at bg;obtain⟨bl,hbl⟩:=Qyy (S.blank X);rw[hbl] at bg;have hBl:Hid (Calls prog 67 #[.string R] w λe w'=>e=.returned (.bool bl)/\w=w'):=hid (bg.mono (λe w' ⟨h1,h2⟩=>⟨h1,h2.symm⟩));have hJ:¬(k:Int)<(s.size:Int):=by omega
   have gq:=hid hR;rw[hR];have hlow:Hid (¬(1<X.length/\X[0]?=some 32/\X[X.length-1]?=some 32/\bl=false)->S.B (znd s.data.toList)=R):=hid (λh=>by rw[hres.out,if_neg (by rw[hbl];exact h)];exact gq.out);by_cases h1:1<R.size
   ·obtain⟨m,hm⟩:∃m,R.size=m+1:=⟨R.size-1,by omega⟩;have hg0:X[0]?=some R[0]:=(by have:=S.zad R 0 (by omega);rw[dh] at this;exact this);have hgm:X[X.length-1]?=some R[m]:=(by have:=S.zad R m (by omega);rw[dh] at this;rw[show X.length-1=m by omega];exact this);have dw:(1:Int)<(R.size:Int):=(by omega);have hJ2:IntKind.i64.wrap ((R.size:Int)-1)=(m:Int):=(by rw[IntKind.wrap_i64];omega);have hJ3:(m:Int)<(R.size:Int):=(by omega);have jd:(0:Int)<(R.size:Int):=(by omega);have hm1:m<R.size:=(by omega);have jg:0<R.size:=(by omega);by_cases ha:R[0]=32
    ·have e1:((R[0].toNat:Int) == 32)=true:=(by simp[ha]);by_cases hb:R[m]=32
     ·have e2:((R[m].toNat:Int) == 32)=true:=(by simp[hb]);cases bl
      ·have hfin:Hid (S.B (znd s.data.toList)=R.extract 1 m):=hid (by
        rw[hres.out,if_pos ⟨by omega,by rw[hg0,ha],by rw[hgm,hb],hbl⟩];rw[<-S.zbp (R.extract 1 m),zd4,dh];congr 2;omega)
       have gy:(1:Int)<=(m:Int):=(by omega);clear hRs dh bg hbl hg0 hgm ha hb hlow hke hR hm;go_wp2_with (fail);refine hBl.out.mono ?_;rintro e w'⟨rfl,rfl⟩;go_wp2;go_ret;exact⟨by rw[hfin.out];rfl,rfl⟩
      ·have hfin:=hid (hlow.out (by simp));clear hRs dh bg hbl hg0 hgm ha hb hlow hke hR hm;go_wp2_with (fail);refine hBl.out.mono ?_;rintro e w'⟨rfl,rfl⟩;go_wp2;go_ret;exact⟨by rw[hfin.out];rfl,rfl⟩
     ·have e2:((R[m].toNat:Int) == 32)=false:=by
       rw[Qe];intro h;exact hb (Qk.1 (by show R[m].toNat=32;omega))
      have hfin:=hid (hlow.out (by rw[hgm];rintro⟨_,_,h,_⟩;exact hb (Qy h)));clear hRs dh bg hbl hg0 hgm ha hb hlow hke hR hm;go_wp2_with (fail);refine hBl.out.mono ?_;rintro e w'⟨rfl,rfl⟩;go_wp2;go_ret;exact⟨by rw[hfin.out];rfl,rfl⟩
    ·have e1:((R[0].toNat:Int) == 32)=false:=by
      rw[Qe];intro h;exact ha (Qk.1 (by show R[0].toNat=32;omega))
     have hfin:=hid (hlow.out (by rw[hg0];rintro⟨_,h,_,_⟩;exact ha (Qy h)));clear hRs dh bg hbl hg0 hgm ha hlow hke hR hm;go_wp2_with (fail);refine hBl.out.mono ?_;rintro e w'⟨rfl,rfl⟩;go_wp2;go_ret;exact⟨by rw[hfin.out];rfl,rfl⟩
   ·have hfin:=hid (hlow.out (by rintro⟨h,_⟩;omega));have dw:¬(1:Int)<(R.size:Int):=(by omega);clear hRs dh bg hbl hlow hke hR;go_wp2_with (fail);refine hBl.out.mono ?_;rintro e w'⟨rfl,rfl⟩;go_wp2;go_ret;exact⟨by rw[hfin.out];rfl,rfl⟩
structure RPt where
 what:Int
 s:List UInt8
 node:Rn
 c:UInt8
 n:Nat
 left:Nat
 op:Bool
 cl:Bool
 im:Bool
 dead:Bool
def zqu:Rn:=.nd 0 0 [] [] 0 []
def pt16 (p:RPt)(kv:Value):List Value:=[.int .i64 p.what,.string (S.B p.s),.int .i64 0,.int .i64 p.node.kind,.int .i64 p.node.n,.string (S.B p.node.info),.string (S.B p.node.text),.int .i64 p.node.line,kv,.int .u8 (p.c.toNat:Int),.int .i64 (p.n:Nat),.int .i64 (p.left:Nat),.bool p.op,.bool p.cl,.bool p.im,.bool p.dead]
def zow (p:RPt)(kv:Value):Value:=.agg (pt16 p kv).toArray
def txtR (l:List UInt8):RPt:=⟨0,l,zqu,0,0,0,false,false,false,false⟩
theorem z4u {W:World}{N T:Nat}{a0 a1 a2 a3 a4 a5 a6 a7 a8 a9 a10 a11 a12 a13 a14 a15:Value}(hx:W.heap[N]?=some (.cells #[a0,a1,a2,a3,a4,a5,a6,a7,a8,a9,a10,a11,a12,a13,a14,a15] T (0,0)))(v0 v1 v2 v3 v4 v5 v6 v7 v8 v9 v10 v11 v12 v13 v14 v15:Value):((((((((((((((((W.setCell ⟨N,0,none⟩ v0).setCell ⟨N,1,none⟩ v1).setCell ⟨N,2,none⟩ v2).setCell ⟨N,3,none⟩ v3).setCell ⟨N,4,none⟩ v4).setCell ⟨N,5,none⟩ v5).setCell ⟨N,6,none⟩ v6).setCell ⟨N,7,none⟩ v7).setCell ⟨N,8,none⟩ v8).setCell ⟨N,9,none⟩ v9).setCell ⟨N,10,none⟩ v10).setCell ⟨N,11,none⟩ v11).setCell ⟨N,12,none⟩ v12).setCell ⟨N,13,none⟩ v13).setCell ⟨N,14,none⟩ v14).setCell ⟨N,15,none⟩ v15).heap[N]?=some (.cells #[v0,v1,v2,v3,v4,v5,v6,v7,v8,v9,v10,v11,v12,v13,v14,v15] T (0,0)):=
 za3 (cs:=[v0,v1,v2,v3,v4,v5,v6,v7,v8,v9,v10,v11,v12,v13,v14,a15]) (za3 (cs:=[v0,v1,v2,v3,v4,v5,v6,v7,v8,v9,v10,v11,v12,v13,a14,a15]) (za3 (cs:=[v0,v1,v2,v3,v4,v5,v6,v7,v8,v9,v10,v11,v12,a13,a14,a15]) (za3 (cs:=[v0,v1,v2,v3,v4,v5,v6,v7,v8,v9,v10,v11,a12,a13,a14,a15]) (za3 (cs:=[v0,v1,v2,v3,v4,v5,v6,v7,v8,v9,v10,a11,a12,a13,a14,a15]) (za3 (cs:=[v0,v1,v2,v3,v4,v5,v6,v7,v8,v9,a10,a11,a12,a13,a14,a15]) (za3 (cs:=[v0,v1,v2,v3,v4,v5,v6,v7,v8,a9,a10,a11,a12,a13,a14,a15]) (za3 (cs:=[v0,v1,v2,v3,v4,v5,v6,v7,a8,a9,a10,a11,a12,a13,a14,a15]) (za3 (cs:=[v0,v1,v2,v3,v4,v5,v6,a7,a8,a9,a10,a11,a12,a13,a14,a15]) (za3 (cs:=[v0,v1,v2,v3,v4,v5,a6,a7,a8,a9,a10,a11,a12,a13,a14,a15]) (za3 (cs:=[v0,v1,v2,v3,v4,a5,a6,a7,a8,a9,a10,a11,a12,a13,a14,a15]) (za3 (cs:=[v0,v1,v2,v3,a4,a5,a6,a7,a8,a9,a10,a11,a12,a13,a14,a15]) (za3 (cs:=[v0,v1,v2,a3,a4,a5,a6,a7,a8,a9,a10,a11,a12,a13,a14,a15]) (za3 (cs:=[v0,v1,a2,a3,a4,a5,a6,a7,a8,a9,a10,a11,a12,a13,a14,a15]) (za3 (cs:=[v0,a1,a2,a3,a4,a5,a6,a7,a8,a9,a10,a11,a12,a13,a14,a15]) (za3 (cs:=[a0,a1,a2,a3,a4,a5,a6,a7,a8,a9,a10,a11,a12,a13,a14,a15]) hx 0 v0) 1 v1) 2 v2) 3 v3) 4 v4) 5 v5) 6 v6) 7 v7) 8 v8) 9 v9) 10 v10) 11 v11) 12 v12) 13 v13) 14 v14) 15 v15
theorem zme {B:Nat}{w W:World}{N:Nat}(hb:Below B w W)(hN:B<=N)(v0 v1 v2 v3 v4 v5 v6 v7 v8 v9 v10 v11 v12 v13 v14 v15:Value):Below B w ((((((((((((((((W.setCell ⟨N,0,none⟩ v0).setCell ⟨N,1,none⟩ v1).setCell ⟨N,2,none⟩ v2).setCell ⟨N,3,none⟩ v3).setCell ⟨N,4,none⟩ v4).setCell ⟨N,5,none⟩ v5).setCell ⟨N,6,none⟩ v6).setCell ⟨N,7,none⟩ v7).setCell ⟨N,8,none⟩ v8).setCell ⟨N,9,none⟩ v9).setCell ⟨N,10,none⟩ v10).setCell ⟨N,11,none⟩ v11).setCell ⟨N,12,none⟩ v12).setCell ⟨N,13,none⟩ v13).setCell ⟨N,14,none⟩ v14).setCell ⟨N,15,none⟩ v15):=
 ((((((((((((((((hb.setCell (p:=⟨N,0,none⟩) hN _).setCell (p:=⟨N,1,none⟩) hN _).setCell (p:=⟨N,2,none⟩) hN _).setCell (p:=⟨N,3,none⟩) hN _).setCell (p:=⟨N,4,none⟩) hN _).setCell (p:=⟨N,5,none⟩) hN _).setCell (p:=⟨N,6,none⟩) hN _).setCell (p:=⟨N,7,none⟩) hN _).setCell (p:=⟨N,8,none⟩) hN _).setCell (p:=⟨N,9,none⟩) hN _).setCell (p:=⟨N,10,none⟩) hN _).setCell (p:=⟨N,11,none⟩) hN _).setCell (p:=⟨N,12,none⟩) hN _).setCell (p:=⟨N,13,none⟩) hN _).setCell (p:=⟨N,14,none⟩) hN _).setCell (p:=⟨N,15,none⟩) hN _)
theorem zxu (w:World):∃W0,W0=w.alloc (.cells #[.int .i64 0,.string ⟨#[]⟩,.int .i64 0,.int .i64 0,.int .i64 0,.string ⟨#[]⟩,.string ⟨#[]⟩,.int .i64 0,.slice none 0 0,.int .u8 0,.int .i64 0,.int .i64 0,.bool false,.bool false,.bool false,.bool false] 196)/\Below w.heap.size w W0/\W0.heap.size=w.heap.size+1/\W0.heap[w.heap.size]?=some (.cells #[.int .i64 0,.string ⟨#[]⟩,.int .i64 0,.int .i64 0,.int .i64 0,.string ⟨#[]⟩,.string ⟨#[]⟩,.int .i64 0,.slice none 0 0,.int .u8 0,.int .i64 0,.int .i64 0,.bool false,.bool false,.bool false,.bool false] 196 (0,0)):=
 ⟨_,rfl,(Below.refl _ _).alloc (Qc _) _,by simp,za1 _ _⟩
theorem ziy (s:ByteArray)(w:World):Calls prog 134 #[.string s] w λe w'=>e=.returned (zow (txtR s.data.toList) (.slice none 0 0))/\Below w.heap.size w w':=by
 obtain⟨W0,hW0,hb0,hs0,hx0⟩:=zxu w;have hz:=hid (z4u hx0 (.int .i64 0) (.string s) (.int .i64 0) (.int .i64 0) (.int .i64 0) (.string ⟨#[]⟩) (.string ⟨#[]⟩) (.int .i64 0) (.slice none 0 0) (.int .u8 0) (.int .i64 0) (.int .i64 0) (.bool false) (.bool false) (.bool false) (.bool false));have hbz:=hid (zme (N:=w.heap.size) hb0 (Qc _) (.int .i64 0) (.string s) (.int .i64 0) (.int .i64 0) (.int .i64 0) (.string ⟨#[]⟩) (.string ⟨#[]⟩) (.int .i64 0) (.slice none 0 0) (.int .u8 0) (.int .i64 0) (.int .i64 0) (.bool false) (.bool false) (.bool false) (.bool false));have d0:=za0 hx0 0 _ rfl;have d1:=za0 hx0 1 _ rfl;have d2:=za0 hx0 2 _ rfl;have d3:=za0 hx0 3 _ rfl;have d4:=za0 hx0 4 _ rfl;have d5:=za0 hx0 5 _ rfl;have d6:=za0 hx0 6 _ rfl;have d7:=za0 hx0 7 _ rfl;have d8:=za0 hx0 8 _ rfl;have d9:=za0 hx0 9 _ rfl;have jl:=za0 hx0 10 _ rfl;have jk:=za0 hx0 11 _ rfl;have jh:=za0 hx0 12 _ rfl;have jg:=za0 hx0 13 _ rfl;have jd:=za0 hx0 14 _ rfl;have gy:=za0 hx0 15 _ rfl;have g0:=za7 hx0;have hlt:w.heap.size<W0.heap.size:=by omega
 have bg:=hid hW0;clear hW0 hb0 hs0 hx0;go_enter func134,ntmps134;go_upto_region 1 with fail
 rw[<-bg.out];go_wp2;refine bodyPost_ret (v:=.agg #[.int .i64 0,.string s,.int .i64 0,.int .i64 0,.int .i64 0,.string ⟨#[]⟩,.string ⟨#[]⟩,.int .i64 0,.slice none 0 0,.int .u8 0,.int .i64 0,.int .i64 0,.bool false,.bool false,.bool false,.bool false]) (by have z0:=za0 hz.out 0 _ rfl;have z1:=za0 hz.out 1 _ rfl;have z2:=za0 hz.out 2 _ rfl;have z3:=za0 hz.out 3 _ rfl;have z4:=za0 hz.out 4 _ rfl;have z5:=za0 hz.out 5 _ rfl;have z6:=za0 hz.out 6 _ rfl;have z7:=za0 hz.out 7 _ rfl;have z8:=za0 hz.out 8 _ rfl;have z9:=za0 hz.out 9 _ rfl;have gq:=za0 hz.out 10 _ rfl;have fq:=za0 hz.out 11 _ rfl;have z12:=za0 hz.out 12 _ rfl;have dx:=za0 hz.out 13 _ rfl;have dw:=za0 hz.out 14 _ rfl;have dh:=za0 hz.out 15 _ rfl;simp[results,results134,go_sem,z0,z1,z2,z3,z4,z5,z6,z7,z8,z9,gq,fq,z12,dx,dw,dh]) rfl ?_;exact⟨by unfold zow pt16 txtR;simp only[S.zbp];rfl,hbz.out⟩
def zxt (a b:RPt):Bool:=if (!a.op||!a.cl)&&(!b.op||!b.cl) then true else (decide ((a.n+b.n) % 3≠0)||(decide (a.n % 3=0)&&decide (b.n % 3=0)))
theorem zxr (w0:Int)(s0:ByteArray)(k0 n0:Int)(i0 t0:ByteArray)(l0:Int)(a0:Option Addr)(c0 d0:Nat)(b0:Int)(oz f0:Nat)(oo oc oi od:Bool)(w1:Int)(s1:ByteArray)(k1 n1:Int)(i1 t1:ByteArray)(l1:Int)(a1:Option Addr)(c1 d1:Nat)(b1:Int)(sz f1:Nat)(so sc si sd:Bool)(w:World)(h1:oz<=1000000)(h2:sz<=1000000):Calls prog 190 #[.agg #[.int .i64 w0,.string s0,.int .i64 0,.int .i64 k0,.int .i64 n0,.string i0,.string t0,.int .i64 l0,.slice a0 c0 d0,.int .u8 b0,.int .i64 (oz:Nat),.int .i64 (f0:Nat),.bool oo,.bool oc,.bool oi,.bool od],.agg #[.int .i64 w1,.string s1,.int .i64 0,.int .i64 k1,.int .i64 n1,.string i1,.string t1,.int .i64 l1,.slice a1 c1 d1,.int .u8 b1,.int .i64 (sz:Nat),.int .i64 (f1:Nat),.bool so,.bool sc,.bool si,.bool sd]] w λe w'=>e=.returned (.bool (if (!oo||!oc)&&(!so||!sc) then true else (decide ((oz+sz) % 3≠0)||(decide (oz % 3=0)&&decide (sz % 3=0)))))/\Below w.heap.size w w':=by
 have hb1:Hid (∀o1 o2,Below w.heap.size w ((w.alloc o1).alloc o2)):=hid (λo1 o2=>((Below.refl _ _).alloc (Qc _) o1).alloc (by simp) o2);obtain⟨m1,e1⟩:∃b,decide (oz % 3=0)=b:=⟨_,rfl⟩;obtain⟨m2,e2⟩:∃b,decide (sz % 3=0)=b:=⟨_,rfl⟩;obtain⟨m3,e3⟩:∃b,decide ((oz+sz) % 3=0)=b:=⟨_,rfl⟩;have i1:((oz:Int) % 3 == 0)=m1:=by rw[<-e1,Bool.eq_iff_iff,beq_iff_eq,decide_eq_true_iff];omega
 have i2:((sz:Int) % 3 == 0)=m2:=by rw[<-e2,Bool.eq_iff_iff,beq_iff_eq,decide_eq_true_iff];omega
 have i3:(((oz:Int)+(sz:Int)) % 3 == 0)=m3:=by rw[<-e3,Bool.eq_iff_iff,beq_iff_eq,decide_eq_true_iff];omega
 have i4:(((oz:Int)+(sz:Int)) % 3 != 0) = !m3:=by rw[bne,i3]
 have hne:decide ((oz+sz) % 3≠0) = !m3:=by rw[<-e3];simp
 rw[e1,e2,hne];clear e1 e2 e3 hne;by_cases hAB:((!oo||!oc)&&(!so||!sc))=true
 ·rw[if_pos hAB];cases oo<;>cases oc<;>cases so<;>cases sc<;>first|(exfalso;revert hAB;decide)|(
   clear hAB;go_enter func190,ntmps190;go_wp2;go_ret;exact⟨rfl,hb1.out _ _⟩)
 ·rw[if_neg hAB];cases oo<;>cases oc<;>cases so<;>cases sc<;>first|(exfalso;revert hAB;decide)|(
   clear hAB;cases m3<;>cases m1
   all_goals (
    simp only[Bool.not_true,Bool.not_false] at i4;go_enter func190,ntmps190;go_wp2;go_ret;exact⟨zb1 (by simp),hb1.out _ _⟩))
theorem zzf (a b:RPt)(a0 a1:Option Addr)(c0 d0 c1 d1:Nat)(w:World)(ha:a.n<=1000000)(hb:b.n<=1000000):Calls prog 190 #[zow a (.slice a0 c0 d0),zow b (.slice a1 c1 d1)] w λe w'=>e=.returned (.bool (zxt a b))/\Below w.heap.size w w':=
 zxr _ _ _ _ _ _ _ _ _ _ _ _ _ _ _ _ _ _ _ _ _ _ _ _ _ _ _ _ _ _ _ _ _ _ w ha hb
end Go.Proofs.YtlojgpkajkedeaaGreatDoor
