import Derived.Test.YtlojgpkajkedeaaGreatDoorORZ
import Derived.Deep.LoopGhost
set_option maxHeartbeats 0
set_option maxRecDepth 100000
namespace Go.Proofs.YtlojgpkajkedeaaGreatDoor
open Go.RowKit Go.Proofs.Tryz
structure P8 (D:Nat->Prop)(w:Sw)(l0:List Af)(qs:List (Af×Value))(i:Nat)(a:So)(wr:Sw):Prop where
 row:Je wr a qs
 Ab:∀(j:Nat) (p:Af×Value),qs[j]?=some p->Bv wr (λx=>D x/\x<wr) p.2 p.1.node.Ab
 size:qs.length+Ct qs<=4000000
 nums:∀(j:Nat) (p:Af×Value),qs[j]?=some p->p.1.n<=1000000
 toL:∀ns,Ii (qs.map Prod.fst) i ns->Ii l0 0 ns
 below:Below w w wr
theorem P8.after {h:Nat->Prop}{w:Sw}{j:List Af}{k:List (Af×Value)}{i:Nat}{a:So}{wr l:Sw}(d:P8 h w j k i a wr)(f:Below wr wr l):P8 h w j k i a l:=
 ⟨d.row.below f,λo p m=>(d.Ab o p m).move (λ_ g=>⟨g.1,Qh g.2 f.size⟩) (λq g=>f.block q g.2),d.size,d.nums,d.toL,d.below.trans (f.mono d.below.size)⟩
def Tc:Option Nat->Int
 |none=>-1
 |some a=>(a:Int)
theorem Je.cell {w:Sw}{a:So}{g:List (Af×Value)}(d:Je w a g)(i:Nat)(p:Af×Value)(k:g[i]?=some p):∃b f,a=some ⟨b,f,none⟩/\b<w:=by
 rcases d with d|⟨b,f,h,j,l⟩
 ·subst d;simp at k
 exact⟨b,f,h,j⟩
theorem Je.at_ {w:Sw}{b j:Nat}{k:List (Af×Value)}(a:Je w (some (b j)) k)(i:Nat)(p:Af×Value)(h:k[i]?=some p)(f:Nat)(g:Value)(m:(Dg p.1 p.2)[f]?=some g):w.cell? (b (j+i*16+f))=some g:=by
 rcases a with a|⟨o,r,d,q,l⟩
 ·subst a;simp at h
 injection d with d
 injection d with e1 e2
 subst e1 e2;exact l i p h f g m
theorem XG (R:Nat->Prop)(a:So)(ci:Nat)(ps:List (Af×Value))(w:Sw)(hg:ps.length<=ci)(fn:Je w a ps)(e1:∀(i:Nat) (p:Af×Value),ps[i]?=some p->Bv w (λj=>R j/\j<w) p.2 p.1.node.Ab)(h2:ps.length+Ct ps<=4000000)(e4:∀(i:Nat) (p:Af×Value),ps[i]?=some p->p.1.n<=1000000)(d7:∀j,w.heap.size<=j->R j):Calls prog 140 #[.slice a ps.length ci] w λe a4=>∃A ac,e=.returned A/\Bv a4 (λj=>R j/\j<a4) A ac/\U (Ii (ps.map Prod.fst) 0 ac)/\Below w w a4:=by
 obtain⟨i0,c2,c3,c4,c5⟩:=info_parts Tryz.DT;obtain⟨a9,c7⟩:=Qyy (ps.map Prod.fst);have fp:U (P8 R w a9 ps 0 a w):=V ⟨fn,e1,h2,e4,λac m=>by rw[<-c7];exact m,Sr⟩;rw[c7];have hu:ps.length<=4000000:=Z;have d8:=V d7;clear fn e1 e4 c7 d7;go_enter func140,ntmps140;go_upto_region 2 with fail
 go_loopg [0,3,4,5,6,7,8,9] (ps.length+Ct ps) (λgk ic ia _ _ _ _ _ _ wr=>∃(bk i T:Nat) (bm:So),ic=.slice bm bk T/\ia=.int .i64 (i:Nat)/\i<=bk/\bk<=T/\bk<=4000000/\U (∃k,bk=k.length/\k.length+Ct k=gk+i/\P8 R w a9 k i bm wr))
 case atStart=>exact⟨ps.length,0,ci,a,rfl,rfl,Qt _,hg,hu,V ⟨ps,rfl,rfl,fp.q⟩⟩
 case round=>
  obtain⟨bk,i,T,bm,rfl,rfl,ji,hh,ht,av⟩:=hrel;clear fp;obtain⟨k,hs,eu,cp⟩:=av.q;subst hs;clear av;have au:=V cp;have c0:=V eu;have h7:w<=wr.heap.size:=cp.below.size;clear cp eu;by_cases c8:i<k.length
  ·obtain⟨p,al⟩:∃p,k[i]?=some p:=⟨k[i],Qg c8⟩;obtain⟨b,l,rfl,eo⟩:=au.q.row.cell i p al;obtain⟨dx,d0,dy,fi⟩:=(au.q.Ab i p al).form;have cc:=au.q.row;have cg:wr.cell? (b (l+i*16))=some (.int .i64 p.1.what):=cc.at_ i p al 0 _ rfl;have bc:wr.cell? (b (l+i*16+11))=some (.int .i64 (p.1.left:Nat)):=cc.at_ i p al 11 _ rfl;have ch:wr.cell? (b (l+i*16+13))=some (.bool p.1.cl):=cc.at_ i p al 13 _ rfl;obtain⟨ae,d9⟩:=Qyy ((if p.1.what=2/\p.1.cl=true/\0<p.1.left then Hz (k.map Prod.fst) p.1 i else none))
   have C:=V al;have hy:=V fi;have bh:=V d9;have g6:(i:Int)<(k.length:Int):=Z;have ir:(0:Int)<=(i:Int):=Z;obtain⟨a0,ey⟩:=Qyy (decide (p.1.what=2/\p.1.cl=true/\0<p.1.left));have c1:=V ey;clear al fi d9 cc ey;obtain⟨cf,di⟩:∃j,p.1.what=j:=⟨_,rfl⟩;obtain⟨ce,dh⟩:∃j,p.1.left=j:=⟨_,rfl⟩;obtain⟨fs,dg⟩:∃j,p.1.cl=j:=⟨_,rfl⟩;rw[di]at cg;rw[dh]at bc;rw[dg]at ch;have cy:=V (And.intro di (And.intro dh dg));clear di dh dg;rename World=>wo
   go_upto_region 4 with fail
   go_cut [34] (λih H=>ih=.bool a0/\wo=H)
   case first=>
    as_aux_lemma=>
    have b8:U (a0=decide (cf=2/\fs=true/\0<ce)):=V (by rw[<-c1.q,cy.q.1,cy.q.2.1,cy.q.2.2]);by_cases o:cf=2
    ·have bd:((cf:Int) == 2)=true:=(by rw[Sqb];exact o);cases fs
     ·have t:U (a0=false):=V (by rw[b8.q];simp);clear o;go_wp2;go_meet;exact⟨by rw[t.q],rfl⟩
     by_cases q:0<ce
     ·have t:U (a0=true):=V (by rw[b8.q];simp[o,q]);have cj:(0:Int)<(ce:Int):=Z;clear o;go_wp2;go_meet;exact⟨by rw[t.q],rfl⟩
     have t:U (a0=false):=V (by rw[b8.q];simp[q]);have cj:¬(0:Int)<(ce:Int):=Z;clear o;go_wp2;go_meet;exact⟨by rw[t.q],rfl⟩
    have bd:((cf:Int) == 2)=false:=(by rw[Qe];exact o);have t:U (a0=false):=V (by rw[b8.q];simp[o]);clear o;go_wp2;go_meet;exact⟨by rw[t.q],rfl⟩
   case rest=>
   obtain⟨rfl,rfl⟩:=hcut;go_upto_if 34 with fail
   go_cut [4,5,6] (λii _ _ H=>ii=.int .i64 (Tc ae)/\U (Below wo wo H))
   case first=>
    as_aux_lemma=>
    cases a0
    ·have t:U (ae=none):=V (by rw[<-bh.q,if_neg (of_decide_eq_false c1.q)]);go_wp2;go_meet;exact⟨by rw[t.q];rfl,V Sr⟩
    have t:U (ae=Hz (k.map Prod.fst) p.1 i):=V (by rw[<-bh.q,if_pos (of_decide_eq_true c1.q)]);have h4:IntKind.i64.wrap ((i:Int)-1)=(i:Int)-1:=(by rw[Sqe];omega);go_upto_region 6 with fail
    clear cg bc ch;go_loopw [4,5,6] (λib dw _ H=>∃(aj:Nat) (ax:Option Nat),aj<=i/\dw=.int .i64 ((aj:Int)-1)/\ib=.int .i64 (Tc ax)/\U ((ax=none/\ae=Hz (k.map Prod.fst) p.1 aj)\/(ax≠none/\ae=ax))/\U (Below wo wo H)) (λ_ dw _ _=>(intOf dw+1).toNat)
    case atStart=>exact⟨i,none,Qc _,rfl,rfl,V (.inl ⟨rfl,t.q⟩),V Sr⟩
    case round=>
    obtain⟨aj,ax,jr,rfl,rfl,b9,a7⟩:=hrel;clear h4;by_cases a8:ax≠none\/aj=0
    ·have dq:U (ae=ax):=V (by
      rcases b9.q with ⟨o,q⟩|⟨o,q⟩
      ·rcases a8 with m|m
       ·exact absurd o m
       subst m;rw[q,o];rfl
      exact q)
     clear b9;cases ax with
     |none=>
      have ds:aj=0:=by rcases a8 with m|m;exact absurd rfl m;exact m
      subst ds;rw[show Tc none = -1 from rfl];clear a8;go_wp2;go_meet;exact⟨by rw[dq.q];rfl,a7⟩
     |some d=>
      rw[show Tc (some d)=(d:Int) from rfl];clear a8;have jj:¬(d:Int)<0:=Z;by_cases ds:aj=0
      ·subst ds;go_wp2;go_meet;exact⟨by rw[dq.q];rfl,a7⟩
      have jt:(0:Int)<=(aj:Int)-1:=Z;have js:(1:Int)<=(aj:Int):=Z;go_wp2;go_meet;exact⟨by rw[dq.q];rfl,a7⟩
    have hn:ax=none:=by
     cases ax with
     |none=>rfl
     |some d=>exact absurd (.inl Y) a8
    subst hn;obtain⟨f,rfl⟩:∃f,aj=f+1:=⟨aj-1,by have:¬aj=0:=λm=>a8 (.inr m);omega⟩;have bs:U (ae=Hz (k.map Prod.fst) p.1 (f+1)):=V (by
     rcases b9.q with ⟨_,q⟩|⟨o,_⟩
     ·exact q
     exact absurd rfl o)
    clear a8 b9;rw[show Tc none = -1 from rfl,show ((f+1:Nat):Int)-1=(f:Int) by omega];have hp:f<k.length:=Z;obtain⟨h,v⟩:∃h,k[f]?=some h:=⟨k[f],Qg hp⟩;have bp:=au.q.after a7.q;obtain⟨d1,d3,d2,fm⟩:=(bp.Ab f h v).form;haveI i9:Nonempty (Bk wr):=⟨⟨wr,Sr⟩⟩;have en:b<wr:=Qh eo a7.q.size;have s:∀(kk:Bk wr) (i:Nat) (p:Af×Value),k[i]?=some p->∀d y,(Dg p.1 p.2)[d]?=some y->kk.w.cell? (b (l+i*16+d))=some y:=λkk i p al d y am=>(kk.h.cell (p:=⟨b,l+i*16+d,none⟩) en).trans (bp.row.at_ i p al d y am);have ft:∀kk:Bk wr,kk.w.cell? (b (l+f*16))=some (.int .i64 h.1.what):=λkk=>s kk f h v 0 _ rfl;have fu:∀kk:Bk wr,kk.w.cell? (b (l+f*16+1))=some (.string (S.B h.1.s)):=λkk=>s kk f h v 1 _ rfl;have f0:∀kk:Bk wr,kk.w.cell? (b (l+f*16+2))=some (.int .i64 0):=λkk=>s kk f h v 2 _ rfl;have f1:∀kk:Bk wr,kk.w.cell? (b (l+f*16+3))=some (.int .i64 h.1.node.kind):=λkk=>s kk f h v 3 _ rfl;have f2:∀kk:Bk wr,kk.w.cell? (b (l+f*16+4))=some (.int .i64 h.1.node.n):=λkk=>s kk f h v 4 _ rfl;have f3:∀kk:Bk wr,kk.w.cell? (b (l+f*16+5))=some (.string (S.B h.1.node.info)):=λkk=>s kk f h v 5 _ rfl;have f4:∀kk:Bk wr,kk.w.cell? (b (l+f*16+6))=some (.string (S.B h.1.node.text)):=λkk=>s kk f h v 6 _ rfl;have f5:∀kk:Bk wr,kk.w.cell? (b (l+f*16+7))=some (.int .i64 h.1.node.line):=λkk=>s kk f h v 7 _ rfl;have f6:∀kk:Bk wr,kk.w.cell? (b (l+f*16+8))=some (.slice d1 d3 d2):=λkk=>by rw[<-fm];exact s kk f h v 8 _ rfl
    have f7:∀kk:Bk wr,kk.w.cell? (b (l+f*16+9))=some (.int .u8 (h.1.c.toNat:Int)):=λkk=>s kk f h v 9 _ rfl;have fv:∀kk:Bk wr,kk.w.cell? (b (l+f*16+10))=some (.int .i64 (h.1.n:Nat)):=λkk=>s kk f h v 10 _ rfl;have b0:∀kk:Bk wr,kk.w.cell? (b (l+f*16+11))=some (.int .i64 (h.1.left:Nat)):=λkk=>s kk f h v 11 _ rfl;have fw:∀kk:Bk wr,kk.w.cell? (b (l+f*16+12))=some (.bool h.1.op):=λkk=>s kk f h v 12 _ rfl;have fx:∀kk:Bk wr,kk.w.cell? (b (l+f*16+13))=some (.bool h.1.cl):=λkk=>s kk f h v 13 _ rfl;have fy:∀kk:Bk wr,kk.w.cell? (b (l+f*16+14))=some (.bool h.1.im):=λkk=>s kk f h v 14 _ rfl;have fz:∀kk:Bk wr,kk.w.cell? (b (l+f*16+15))=some (.bool h.1.dead):=λkk=>s kk f h v 15 _ rfl;have f8:∀kk:Bk wr,kk.w.cell? (b (l+i*16))=some (.int .i64 p.1.what):=λkk=>s kk i p C.q 0 _ rfl;have f9:∀kk:Bk wr,kk.w.cell? (b (l+i*16+1))=some (.string (S.B p.1.s)):=λkk=>s kk i p C.q 1 _ rfl;have gg:∀kk:Bk wr,kk.w.cell? (b (l+i*16+2))=some (.int .i64 0):=λkk=>s kk i p C.q 2 _ rfl;have ab:∀kk:Bk wr,kk.w.cell? (b (l+i*16+3))=some (.int .i64 p.1.node.kind):=λkk=>s kk i p C.q 3 _ rfl;have gh:∀kk:Bk wr,kk.w.cell? (b (l+i*16+4))=some (.int .i64 p.1.node.n):=λkk=>s kk i p C.q 4 _ rfl;have gi:∀kk:Bk wr,kk.w.cell? (b (l+i*16+5))=some (.string (S.B p.1.node.info)):=λkk=>s kk i p C.q 5 _ rfl;have gj:∀kk:Bk wr,kk.w.cell? (b (l+i*16+6))=some (.string (S.B p.1.node.text)):=λkk=>s kk i p C.q 6 _ rfl;have gl:∀kk:Bk wr,kk.w.cell? (b (l+i*16+7))=some (.int .i64 p.1.node.line):=λkk=>s kk i p C.q 7 _ rfl;have gm:∀kk:Bk wr,kk.w.cell? (b (l+i*16+8))=some (.slice dx d0 dy):=λkk=>by rw[<-hy.q];exact s kk i p C.q 8 _ rfl
    have gn:∀kk:Bk wr,kk.w.cell? (b (l+i*16+9))=some (.int .u8 (p.1.c.toNat:Int)):=λkk=>s kk i p C.q 9 _ rfl;have ga:∀kk:Bk wr,kk.w.cell? (b (l+i*16+10))=some (.int .i64 (p.1.n:Nat)):=λkk=>s kk i p C.q 10 _ rfl;have gb:∀kk:Bk wr,kk.w.cell? (b (l+i*16+11))=some (.int .i64 (p.1.left:Nat)):=λkk=>s kk i p C.q 11 _ rfl;have gc:∀kk:Bk wr,kk.w.cell? (b (l+i*16+12))=some (.bool p.1.op):=λkk=>s kk i p C.q 12 _ rfl;have gd:∀kk:Bk wr,kk.w.cell? (b (l+i*16+13))=some (.bool p.1.cl):=λkk=>s kk i p C.q 13 _ rfl;have ge:∀kk:Bk wr,kk.w.cell? (b (l+i*16+14))=some (.bool p.1.im):=λkk=>s kk i p C.q 14 _ rfl;have gf:∀kk:Bk wr,kk.w.cell? (b (l+i*16+15))=some (.bool p.1.dead):=λkk=>s kk i p C.q 15 _ rfl;obtain⟨bf,cz⟩:=Qyy (Va h.1 p.1);have ea:U (∀kk:Bk wr,Calls prog 190 #[.agg #[.int .i64 h.1.what,(S.B h.1.s),O,.int .i64 h.1.node.kind,.int .i64 h.1.node.n,(S.B h.1.node.info),(S.B h.1.node.text),.int .i64 h.1.node.line,.slice d1 d3 d2,.int .u8 (h.1.c.toNat:Int),.int .i64 (h.1.n:Nat),.int .i64 (h.1.left:Nat),.bool h.1.op,.bool h.1.cl,.bool h.1.im,.bool h.1.dead],.agg #[.int .i64 p.1.what,(S.B p.1.s),O,.int .i64 p.1.node.kind,.int .i64 p.1.node.n,(S.B p.1.node.info),(S.B p.1.node.text),.int .i64 p.1.node.line,.slice dx d0 dy,.int .u8 (p.1.c.toNat:Int),.int .i64 (p.1.n:Nat),.int .i64 (p.1.left:Nat),.bool p.1.op,.bool p.1.cl,.bool p.1.im,.bool p.1.dead]] kk.w λe a4=>e=.returned bf/\Below wr wr a4):=V (λkk=>by
     have:=zgc h.1 p.1 d1 dx d3 d2 d0 dy kk.w (bp.nums f h v) (bp.nums i p C.q);rw[cz]at this;exact this.mono (λe a4 ⟨o,q⟩=>⟨o,kk.h.trans (q.mono kk.h.size)⟩))
    have i3:(f:Int)<(k.length:Int):=Z;have i4:(0:Int)<=(f:Int):=Z;have a1:=V v;have ep:U (∀H,Below wr wr H->Below wo wo H):=V (λH W=>a7.q.trans (W.mono a7.q.size));have hc:=V s;have hj:=V cz;have ju:IntKind.i64.wrap ((f:Int)-1)=(f:Int)-1:=(by rw[Sqe];omega);clear v bp fm s cz;go_upto_region 8 with fail
    go_cut [6] (λij H=>ij=.bool bf/\U (Below wr wr H))
    case first=>
     as_aux_lemma=>
     refine I6 Sk Sk ?_;repeat (go_big_quiet_step ((rename_i kk;exact(ea.q kk).mono (λe a4 m=>⟨m.1,⟨a4,m.2⟩,rfl⟩))))
     refine wpQuiet_nil ?_;intro _ an;obtain⟨kq,ao⟩:=an;subst ao;go_wp2;go_meet;exact⟨rfl,V kq.h⟩
    case rest=>
    obtain⟨rfl,af⟩:=hcut;clear ft fu f0 f1 f2 f3 f4 f5 f6 f7 fv b0 fw fx fy fz f8 f9 gg ab gh gi gj gl gm gn ga gb gc gd ge gf ea;haveI ja:Nonempty (Bk wc):=⟨⟨wc,Sr⟩⟩;have bj:∀(kk:Bk wc) (i:Nat) (p:Af×Value),k[i]?=some p->∀d y,(Dg p.1 p.2)[d]?=some y->kk.w.cell? (b (l+i*16+d))=some y:=λkk i p al d y am=>hc.q ⟨kk.w,af.q.trans (kk.h.mono af.q.size)⟩ i p al d y am;obtain⟨bz,dp⟩:∃j,h.1.what=j:=⟨_,rfl⟩;obtain⟨ba,dl⟩:∃j,h.1.left=j:=⟨_,rfl⟩;obtain⟨d4,dn⟩:∃j,h.1.op=j:=⟨_,rfl⟩;obtain⟨bx,dk⟩:∃j,h.1.c=j:=⟨_,rfl⟩;obtain⟨bw,df⟩:∃j,p.1.c=j:=⟨_,rfl⟩;have go:∀kk:Bk wc,kk.w.cell? (b (l+f*16))=some (.int .i64 bz):=λkk=>by rw[<-dp];exact bj kk f h a1.q 0 _ rfl
    have gr:∀kk:Bk wc,kk.w.cell? (b (l+f*16+9))=some (.int .u8 (bx.toNat:Int)):=λkk=>by rw[<-dk];exact bj kk f h a1.q 9 _ rfl
    have gp:∀kk:Bk wc,kk.w.cell? (b (l+f*16+11))=some (.int .i64 (ba:Nat)):=λkk=>by rw[<-dl];exact bj kk f h a1.q 11 _ rfl
    have gq:∀kk:Bk wc,kk.w.cell? (b (l+f*16+12))=some (.bool d4):=λkk=>by rw[<-dn];exact bj kk f h a1.q 12 _ rfl
    have gs:∀kk:Bk wc,kk.w.cell? (b (l+i*16+9))=some (.int .u8 (bw.toNat:Int)):=λkk=>by rw[<-df];exact bj kk i p C.q 9 _ rfl
    obtain⟨ap,dc⟩:=Qyy (Ml h.1 p.1);have bt:U (ap=(decide (bz=2)&&decide (bx=bw)&&d4&&decide (0<ba)&&bf)):=V (by rw[<-dc,<-dp,<-dl,<-dn,<-dk,<-df,<-hj.q];rfl);have eq:U (ae=if ap=true then some f else Hz (k.map Prod.fst) p.1 f):=V (by
     rw[bs.q];simp only[Hz];have o:(k.map Prod.fst)[f]?=some h.1:=(by rw[SA,a1.q];rfl);rw[o,<-dc])
    have cv:b<wc:=Qh en af.q.size;clear bj dp dl dn dk df dc;go_upto_region 9 with fail
    go_cut [90] (λim H=>im=.bool ap/\U (Below wr wr H))
    case first=>
     as_aux_lemma=>
     by_cases o:bz=2
     ·have bd:((bz:Int) == 2)=true:=(by rw[Sqb];exact o);by_cases q:bx=bw
      ·have gv:((bx.toNat:Int) == (bw.toNat:Int))=true:=(by rw[Sqb,q]);cases d4
       ·have t:U (ap=false):=V (by rw[bt.q];simp);clear o q;refine I6 Sk Sk ?_;repeat (go_big_quiet_step (fail))
        refine wpQuiet_nil ?_;intro _ an;obtain⟨kq,ao⟩:=an;subst ao;go_wp2;go_meet;exact⟨by rw[t.q],V (af.q.trans (kq.h.mono af.q.size))⟩
       by_cases ak:0<ba
       ·have gw:(0:Int)<(ba:Int):=Z;have io:decide ((0:Int)<(ba:Int))=true:=Sl gw;have t:U (ap=bf):=V (by rw[bt.q];simp[o,q,ak]);have ip:decide (0<ba)=true:=Sl ak;clear o q;refine I6 Sk Sk ?_;repeat (go_big_quiet_step (fail))
        refine wpQuiet_nil ?_;intro _ an;obtain⟨kq,ao⟩:=an;subst ao;go_wp2;go_meet;exact⟨by rw[t.q],V (af.q.trans (kq.h.mono af.q.size))⟩
       have t:U (ap=false):=V (by rw[bt.q];simp[ak]);have g0:ba=0:=Z;subst g0;clear o q ak;refine I6 Sk Sk ?_;repeat (go_big_quiet_step (fail))
       refine wpQuiet_nil ?_;intro _ an;obtain⟨kq,ao⟩:=an;subst ao;go_wp2;go_meet;exact⟨by rw[t.q],V (af.q.trans (kq.h.mono af.q.size))⟩
      have gv:((bx.toNat:Int) == (bw.toNat:Int))=false:=by
       rw[Qe];intro m;exact q (Qk.1 Z)
      have t:U (ap=false):=V (by rw[bt.q];simp[q]);clear o q;refine I6 Sk Sk ?_;repeat (go_big_quiet_step (fail))
      refine wpQuiet_nil ?_;intro _ an;obtain⟨kq,ao⟩:=an;subst ao;go_wp2;go_meet;exact⟨by rw[t.q],V (af.q.trans (kq.h.mono af.q.size))⟩
     have bd:((bz:Int) == 2)=false:=(by rw[Qe];exact o);have t:U (ap=false):=V (by rw[bt.q];simp[o]);clear o;refine I6 Sk Sk ?_;repeat (go_big_quiet_step (fail))
     refine wpQuiet_nil ?_;intro _ an;obtain⟨kq,ao⟩:=an;subst ao;go_wp2;go_meet;exact⟨by rw[t.q],V (af.q.trans (kq.h.mono af.q.size))⟩
    case rest=>
    obtain⟨rfl,ei⟩:=hcut;clear go gr gp gq gs;cases ap
    ·have cx:U (ae=Hz (k.map Prod.fst) p.1 f):=V (by rw[eq.q];rfl);go_wp2;go_roundw
     case rel=>exact⟨f,none,Z,by first|rfl|go_num,rfl,V (.inl ⟨rfl,cx.q⟩),V (ep.q _ ei.q)⟩
     case measure=>simp[intOf]
    have cx:U (ae=some f):=V (by rw[eq.q];rfl);go_wp2;go_roundw
    case rel=>exact⟨f,some f,Z,by first|rfl|go_num,rfl,V (.inr ⟨Y,cx.q⟩),V (ep.q _ ei.q)⟩
    case measure=>simp[intOf]
   case rest=>
   obtain⟨rfl,cu⟩:=hcut;clear cg bc ch;have D:=V (au.q.after cu.q);have h6:wo<=wc.heap.size:=cu.q.size;have c9:U ((k.map Prod.fst)[i]?=some p.1):=V (by rw[SA,C.q];rfl);cases ae with
   |none=>
    rw[show Tc none = -1 from rfl];have g8:U (P8 R w a9 k (i+1) (some (b l)) wc):=V ⟨D.q.row,D.q.Ab,D.q.size,D.q.nums,λac m=>D.q.toL ac (.step _ _ ac (by rw[List.length_map];exact c8) (by rw[BM _ _ _ c9.q bh.q];exact m)),D.q.below⟩;clear D;go_wp2;go_roundg (gk-1)
    case rel=>exact⟨k.length,i+1,T,some (b l),rfl,by go_num,Z,hh,ht,V ⟨k,rfl,by have:=c0.q;omega,g8.q⟩⟩
    case measure=>have:=c0.q;omega
   |some d=>
    rw[show Tc (some d)=(d:Int) from rfl];have cw:p.1.what=2/\p.1.cl=true/\0<p.1.left:=by
     by_cases m:p.1.what=2/\p.1.cl=true/\0<p.1.left
     ·exact m
     have:=bh.q;rw[if_neg m]at this;cases this
    have bs:=bh.q;rw[if_pos cw]at bs;obtain⟨jk,ie,dj,bu⟩:=Xk _ _ _ _ bs;have hm:d<k.length:=Z;obtain⟨h,v⟩:∃h,k[d]?=some h:=⟨k[d],Qg hm⟩;have dm:(k.map Prod.fst)[d]?=some h.1:=(by rw[SA,v];rfl);have fj:ie=h.1:=(by rw[dm]at dj;exact(Qy dj).symm);rw[fj]at bu;have fk:0<h.1.left:=by
     unfold Ml at bu;simp only[Bool.and_eq_true,decide_eq_true_iff]at bu;exact bu.1.2
    have fg:=cw.2.2;have bc:wc.cell? (b (l+i*16+11))=some (.int .i64 (p.1.left:Nat)):=D.q.row.at_ i p C.q 11 _ rfl;have b0:wc.cell? (b (l+d*16+11))=some (.int .i64 (h.1.left:Nat)):=D.q.row.at_ d h v 11 _ rfl;obtain⟨ah,ca⟩:∃j,p.1.left=j:=⟨_,rfl⟩;obtain⟨ai,cb⟩:∃j,h.1.left=j:=⟨_,rfl⟩;rw[ca]at bc;rw[cb]at b0;obtain⟨u,da⟩:=Qyy (E9 h.1 p.1);obtain⟨ay,e0⟩:∃ay:Int,(if u=2 then 15 else 14)=ay:=⟨_,rfl⟩
    have db:U (u=if 2<=ah/\2<=ai then 2 else 1):=V (by rw[<-da,<-ca,<-cb];rfl)
    have jp:u<=ah/\u<=ai:=(by rw[db.q];split<;>omega);have c6:=V e0;have hv:=V da;have a1:=V v;have fh:=V ca;have fl:=V cb;have cv:b<wc:=Qh eo h6;have iz:(0:Int)<=(d:Int):=Z;have i1:(d:Int)<(k.length:Int):=Z;have i2:¬(d:Int)<0:=Z;have hx:=V (WE _ _ _ _ _ c9.q bh.q dm);have hw:=V fg;have hz:=V fk;obtain⟨bb,fq⟩:=Qyy (decide (2<=ah/\2<=ai));have bv:=V fq;have jq:ah<=4000000/\ai<=4000000:=by
     have o:=Vd k (i+1);have q:=Vd k (d+1);rw[Wx k i p C.q]at o;rw[Wx k d h v]at q;have:=D.q.size;omega
    clear cw bs dj bu v dm fj fk fg ca cb da e0 fq cu c9;go_upto_region 15 with fail
    go_cut [109] (λig H=>ig=.bool bb/\wc=H)
    case first=>
     by_cases o:2<=ah
     ·have gz:(2:Int)<=(ah:Int):=Z;by_cases q:2<=ai
      ·have cj:(2:Int)<=(ai:Int):=Z;have t:U (bb=true):=V (by rw[<-bv.q];simp[o,q]);go_wp2;go_meet;exact⟨by rw[t.q],rfl⟩
      have cj:¬(2:Int)<=(ai:Int):=Z;have t:U (bb=false):=V (by rw[<-bv.q];simp[q]);go_wp2;go_meet;exact⟨by rw[t.q],rfl⟩
     have gz:¬(2:Int)<=(ah:Int):=Z;have t:U (bb=false):=V (by rw[<-bv.q];simp[o]);go_wp2;go_meet;exact⟨by rw[t.q],rfl⟩
    case rest=>
    obtain⟨rfl,rfl⟩:=hcut;go_upto_if 109 with fail
    go_cut [7,8] (λik il H=>ik=.int .i64 (u:Nat)/\il=.int .i64 ay/\wc=H)
    case first=>
     cases bb
     ·have t:U (u=1/\ay=14):=V (by
       have o:u=1:=(by rw[db.q,if_neg (of_decide_eq_false bv.q)]);exact⟨o,by rw[<-c6.q,o];rfl⟩)
      go_wp2;go_meet;exact⟨by rw[t.q.1];rfl,by rw[t.q.2],rfl⟩
     have t:U (u=2/\ay=15):=V (by
      have o:u=2:=(by rw[db.q,if_pos (of_decide_eq_true bv.q)]);exact⟨o,by rw[<-c6.q,o];rfl⟩)
     go_wp2;go_meet;exact⟨by rw[t.q.1];rfl,by rw[t.q.2],rfl⟩
    case rest=>
    obtain⟨rfl,rfl,rfl⟩:=hcut;clear bc b0
    have dr:∀H,Below wc wc H->∀(f:Nat) (j:Af×Value),k[f]?=some j->∀x y,(Dg j.1 j.2)[x]?=some y->H.cell? (b (l+f*16+x))=some y:=λH W f j r x y am=>(W.cell (p:=⟨b,l+f*16+x,none⟩) cv).trans (D.q.row.at_ f j r x y am);have dd:U (∀rs:List (Af×Value),(∀j∈rs,j∈k)->∀A∈Ba rs,A.oneCell'=true):=V (λrs h1 A aw=>by
     unfold Ba at aw;rw[List.mem_flatten]at aw;obtain⟨jy,e2,aw⟩:=aw;rw[List.mem_map]at e2;obtain⟨j,W,rfl⟩:=e2;obtain⟨f,r⟩:=List.getElem?_of_mem (h1 j W);obtain⟨j0,j2,j1,h8⟩:=(D.q.Ab f j r).form;rw[h8]at aw;simp only[Dg,List.mem_cons,List.not_mem_nil,or_false]at aw;rcases aw with rfl|rfl|rfl|rfl|rfl|rfl|rfl|rfl|rfl|rfl|rfl|rfl|rfl|rfl|rfl|rfl<;>rfl)
    obtain⟨M,bg⟩:=Qyy (k.take (d+1));have a5:M.length=d+1:=(by rw[<-bg,Ql];omega);have g3:(Ba M).length=(d+1)*16:=(by rw[Pz,a5]);have e5:U (∀x y,(Ba M)[x]?=some y->wc.cell? ((b l:Addr).add x)=some y):=V (Je.news (λf j r x y am=>dr wc Sr f j (by
     rw[<-bg]at r;rw[List.getElem?_take]at r;split at r
     ·exact r
     cases r) x y am))
    have e8:U (∀A∈Ba M,A.oneCell'=true):=V (dd.q M (λj W=>by rw[<-bg]at W;exact List.mem_of_mem_take W));have ec:U (∀N cap1 Q,Q.ownsRow wc 196 16 (.slice (some ⟨N,0,none⟩) (d+1) cap1) (d+1) (Ba M)->wc.grownBy Q (Value.slice none 0 0).ownBlock->wc.heap.size<=N->Dt R wc M (.slice (some ⟨N,0,none⟩) (d+1) cap1) Q/\Below wc wc Q):=V (λN cap1 Q o q ak=>by
     have:=(Dt.nil R wc wc).many (rs:=M) (g:=N) (cap1:=cap1) (w2:=Q) (λf j r=>(D.q.Ab f j (by
      rw[<-bg]at r;rw[List.getElem?_take]at r;split at r
      ·exact r
      cases r)).move (λL z=>⟨z.1,z.2,by simp[Value.ownBlock]⟩) (λ_ _=>rfl)) (by rw[show ([]:List (Af×Value)).length+M.length=d+1 by simp[a5]];exact o) q (.inr ak)
     rw[SY,a5]at this;exact⟨this,Sqi Sr q (Qc _) (λh v=>by simp[Value.ownBlock]at v)⟩)
    have fo:=V dr;have g2:=V bg;have jd:d+1<=T:=Z;have iu:(d:Int)+1<=(T:Int):=Z;have iv:(0:Int)<=(d:Int)+1:=Z;clear dr bg;go_wp2_with (at_builtin;refine wpList_append_lies _ I _ _ 194 I wc 196 i0 (.agg #[O,(),O,O,O,(),(),O,Sx,.int .u8 0,O,O,false,false,false,false]) 16 144 underlying194 c2 c3 c4 c5 I Z (.slice none 0 0) 0 [] I (Sqg _ _ _ _) (b l) (d+1) T (Ba M) I g3 e5.q e8.q Z (by unfold maxLen;omega) Z (Qc _) wc rfl ?_)
    intro N cap1 Q fb ev ef jl;obtain⟨cq,bq⟩:=ec.q N cap1 Q fb ev (by
     rcases ef with m|m
     ·simp[Value.ownBlock]at m
     omega)
    have je:wc<=N:=(cq.own.lt N rfl).1;have dv:wc.heap.size<=Q.heap.size:=bq.size;have g5:U (∀j,wc.heap.size<=j->R j):=V (λj W=>d8.q j Z);obtain⟨ar,co⟩:=Qyy (((k.map Prod.fst).take i).drop (d+1));have b4:U (Calls prog 191 #[.slice (some (b (l+(d+1)*16))) (i-(d+1)) (T-(d+1))] Q λe w2=>∃E G F,e=.returned (.slice E G F)/\U (Bv w2 (λj=>(R j/\j<wc)\/(Q.heap.size<=j/\j<w2)) (.slice E G F) (F8 ar [])/\Below Q.heap.size Q w2)):=V (by
     have ez:∀(f:Nat) (j:Af×Value),((k.take i).drop (d+1))[f]?=some j->k[d+1+f]?=some j:=λf j r=>by
      rw[Qn,List.getElem?_take]at r;split at r
      ·exact r
      cases r
     have hr:((k.take i).drop (d+1)).length=i-(d+1):=(by rw[Qf,Ql];omega);have du:Ct ((k.take i).drop (d+1))<=Ct k:=by
      have o:=Vd k i;have q:Ct (k.take i)=Ct ((k.take i).take (d+1))+Ct ((k.take i).drop (d+1)):=(by rw[<-Rt,Sy]);omega
     have:=MK (λj=>R j/\j<wc) (some (b (l+(d+1)*16))) (T-(d+1)) ((k.take i).drop (d+1)) Q (.inr ⟨b,_,rfl,Qh cv dv,λf j r x y am=>by
      have ck:=fo.q Q bq (d+1+f) j (ez f j r) x y am;rw[show l+(d+1)*16+f*16+x=l+(d+1+f)*16+x by omega];exact ck⟩) (λf j r=>(D.q.Ab _ j (ez f j r)).move (λ_ z=>z) (λL z=>bq.block L z.2)) (λj W=>Qh W.2 dv) Z (by have:=D.q.size;omega)
     rw[hr]at this;refine this.mono ?_;rintro e w2⟨A,rfl,av,a6⟩;obtain⟨E,G,F,rfl⟩:=av.form;refine⟨E,G,F,rfl,V ⟨?_,a6⟩⟩;rw[<-co,<-List.map_take,<-List.map_drop];exact av)
    have g9:=V cq;have he:=V bq;have g7:=V co;have iw:(d:Int)+1<=(i:Int):=Z;have ix:(i:Int)<=(T:Int):=Z;have jn:¬T=d+1:=Z;have jo:¬T=i:=Z;have iy:(i:Int)<=(k.length:Int):=Z;clear fb ev ef cq bq co ec e5 e8;go_wp2_with (fail);apply b4.m;rintro e w2⟨E,G,F,rfl,b6⟩;have fr:Q.heap.size<=w2.heap.size:=b6.q.2.size;have de:U (∀ag,(w2.alloc ag).ownsRow wc 196 16 (.slice (some ⟨N,0,none⟩) (d+1) cap1) (d+1) (Ba M)/\Dt R wc M (.slice (some ⟨N,0,none⟩) (d+1) cap1) (w2.alloc ag)):=V (λag=>by
     have o:=g9.q.after (b6.q.2.alloc fr ag);have q:=o.own;rw[a5]at q;exact⟨q,o⟩)
    have e6:U (∀x A,([(1:Int),(),O,ay,O,(),(),O,.slice E G F,.int .u8 0,O,O,false,false,false,false]:List Value)[x]?=some A->(w2.alloc (.cells #[(1:Int),(),O,ay,O,(),(),O,.slice E G F,.int .u8 0,O,O,false,false,false,false] 196)).cell? ((w2:Addr).add x)=some A):=V (λx A hl=>World.news_of_block (Ak _ _) x A (by exact hl));have e9:U (∀A∈([(1:Int),(),O,ay,O,(),(),O,.slice E G F,.int .u8 0,O,O,false,false,false,false]:List Value),A.oneCell'=true):=V (by
     intro A aw;simp only[List.mem_cons,List.not_mem_nil,or_false]at aw;rcases aw with rfl|rfl|rfl|rfl|rfl|rfl|rfl|rfl|rfl|rfl|rfl|rfl|rfl|rfl|rfl|rfl<;>rfl)
    have ed:U (∀ag P az aa,aa.ownsRow wc 196 16 (.slice (some ⟨P,0,none⟩) (d+1+1) az) (d+1+1) (Ba M++[.int .i64 1,.string ⟨#[]⟩,.int .i64 0,.int .i64 ay,.int .i64 0,.string ⟨#[]⟩,.string ⟨#[]⟩,.int .i64 0,.slice E G F,.int .u8 0,.int .i64 0,.int .i64 0,.bool false,.bool false,.bool false,.bool false])->(w2.alloc ag).grownBy aa (Value.slice (some ⟨N,0,none⟩) (d+1) cap1).ownBlock->(N=P\/(w2.alloc ag).heap.size<=P)->Dt R wc (M++[(C8 (Ju u ar),.slice E G F)]) (.slice (some ⟨P,0,none⟩) (d+1+1) az) aa/\Below wc wc aa):=V (λag P az aa o q ak=>by
     have em:Below Q.heap.size Q (w2.alloc ag):=b6.q.2.alloc fr ag;have:=(de.q ag).2.many (rs:=[(C8 (Ju u ar),.slice E G F)]) (g:=P) (cap1:=az) (w2:=aa) (λf j r=>by
      have ho:f=0:=(by have:=(Qb.1 r).1;simp at this;exact this);subst ho;simp at r;subst r;have ej:Below w2 w2 (w2.alloc ag):=Sr.alloc (Qc _) ag;refine b6.q.1.move (λL z=>?_) (λL z=>ej.block L (by rcases z with m|m;omega;exact m.2))
      have iq:=ej.size;have jx:L<w2:=by rcases z with m|m;omega;exact m.2
      have h9:L≠N:=by rcases z with m|m;omega;omega
      refine⟨by rcases z with m|m;exact m.1;exact g5.q L Z,Z,?_⟩
      show some L≠some N;intro e;injection e with e;exact h9 e) (by
       rw[a5];have e:=c6.q;subst e;exact o) q (by rcases ak with m|m;exact .inl (by rw[m];rfl);exact .inr m)
     rw[Qa,a5]at this;exact⟨this,Sqi (he.q.trans (em.mono dv)) q (by have:=em.size;omega) (λL z=>by
      have:some N=some L:=z;injection this with this;omega)⟩)
    clear b4;go_wp2_with (at_builtin;refine wpList_append_lies _ I _ _ 194 I wc 196 i0 (.agg #[O,(),O,O,O,(),(),O,Sx,.int .u8 0,O,O,false,false,false,false]) 16 144 underlying194 c2 c3 c4 c5 I Z (.slice (some ⟨N,0,none⟩) (d+1) cap1) (d+1) (Ba M) I (de.q _).1 w2 1 1 [.int .i64 1,.string ⟨#[]⟩,.int .i64 0,.int .i64 ay,.int .i64 0,.string ⟨#[]⟩,.string ⟨#[]⟩,.int .i64 0,.slice E G F,.int .u8 0,.int .i64 0,.int .i64 0,.bool false,.bool false,.bool false,.bool false] I I e6.q e9.q Z (by unfold maxLen;omega) Z (by simp;omega) ((w2:Nat)+1) Y ?_)
    intro P az aa fc ew eg jm;obtain⟨bn,br⟩:=ed.q _ P az aa fc ew (by
     rcases eg with m|m
     ·exact .inl (by have:some N=some P:=m;injection this)
     exact .inr (by simp;omega))
    obtain⟨a2,b2⟩:=Qyy (M++[(C8 (Ju u ar),.slice E G F)]);rw[b2]at bn;have b3:a2.length=d+1+1:=(by rw[<-b2,Qa,a5];rfl);obtain⟨ab,b5⟩:=Qyy (k.length-i);have jf:wc<=P:=(bn.own.lt P rfl).1;have h5:wc.heap.size<=aa.heap.size:=br.size;have fd:U (aa.ownsRow wc 196 16 (.slice (some ⟨P,0,none⟩) (d+1+1) az) (d+1+1) (Ba a2)):=V (by have:=bn.own;rw[b3]at this;exact this);have e7:U (∀x y,(Ba (k.drop i))[x]?=some y->aa.cell? ((b (l+i*16):Addr).add x)=some y):=V (Je.news (λf j r x y am=>by
     rw[Qn]at r;have ck:=fo.q aa br (i+f) j r x y am;rw[show l+i*16+f*16+x=l+(i+f)*16+x by omega];exact ck))
    have fa:U (∀A∈Ba (k.drop i),A.oneCell'=true):=V (dd.q _ (λj W=>List.mem_of_mem_drop W));have hq:(Ba (k.drop i)).length=ab*16:=(by rw[Pz,Qf,b5]);have ee:U (∀K a3 aq,aq.ownsRow wc 196 16 (.slice (some ⟨K,0,none⟩) (d+1+1+ab) a3) (d+1+1+ab) (Ba a2++Ba (k.drop i))->aa.grownBy aq (Value.slice (some ⟨P,0,none⟩) (d+1+1) az).ownBlock->(P=K\/aa.heap.size<=K)->Dt R wc (a2++k.drop i) (.slice (some ⟨K,0,none⟩) (d+1+1+ab) a3) aq/\Below wc wc aq):=V (λK a3 aq o q ak=>by
     have:=bn.many (rs:=k.drop i) (g:=K) (cap1:=a3) (w2:=aq) (λf j r=>by
      rw[Qn]at r;refine(D.q.Ab _ j r).move (λL z=>⟨z.1,Z,?_⟩) (λL z=>br.block L z.2);show some L≠some P;intro e;injection e with e;omega) (by rw[b3,Qf,b5];exact o) q (by rcases ak with m|m;exact .inl (by rw[m];rfl);exact .inr m)
     rw[Qa,b3,Qf,b5]at this;exact⟨this,Sqi br q h5 (λL z=>by
      have:some P=some L:=z;injection this with this;omega)⟩)
    have g4:=V b2;have cs:=V b5;have jb:0<ab:=Z;have i5:(i:Int)<=(k.length:Int):=Z;clear fc ew eg bn br b2 ed e6 e9 de;go_wp2_with (at_builtin;refine wpList_append_lies _ I _ _ 194 I wc 196 i0 (.agg #[O,(),O,O,O,(),(),O,Sx,.int .u8 0,O,O,false,false,false,false]) 16 144 underlying194 c2 c3 c4 c5 I Z (.slice (some ⟨P,0,none⟩) (d+1+1) az) (d+1+1) (Ba a2) I fd.q (b (l+i*16)) ab (T-i) (Ba (k.drop i)) I hq e7.q fa.q Z (by unfold maxLen;omega) Z Z aa.heap.size rfl ?_)
    intro K a3 aq fe ex eh e3;obtain⟨bo,ek⟩:=ee.q K a3 aq fe ex (by
     rcases eh with m|m
     ·exact .inl (by have:some P=some K:=m;injection this)
     exact .inr Z)
    have er:wc<=K:=(bo.own.lt K rfl).1;have cl:a2++k.drop i=k.take d++h::(C8 (Ju u ar),.slice E G F)::p::k.drop (i+1):=by
     rw[<-g4.q,<-g2.q];exact zf6 k d i h p _ a1.q C.q
    rw[cl]at bo;have dt:(k.take d).length=d:=(by rw[Ql];omega);have es:(k.take d++h::(C8 (Ju u ar),.slice E G F)::p::k.drop (i+1))[d]?=some h:=by
     rw[Qu Z,dt,Nat.sub_self];rfl
    obtain⟨cr,d5,gx,cm⟩:=bo.set d 11 h (Ia h.1 u,h.2) (.int .i64 ((ai-u:Nat):Int)) es Z (by rw[<-fl.q];rfl) rfl rfl;obtain⟨bl,b7⟩:=Qzz (aq.setCell ⟨K,d*16+11,none⟩ (.int .i64 ((ai-u:Nat):Int)));rw[<-b7]at cr cm;have gt:aq.cell? ⟨K,d*16+11,none⟩=some (.int .i64 (ai:Nat)):=(by rw[d5,<-fl.q];rfl);have et:((k.take d++h::(C8 (Ju u ar),.slice E G F)::p::k.drop (i+1)).set d (Ia h.1 u,h.2))[d+2]?=some p:=by
     rw[List.getElem?_set_ne Z,Qu Z,dt,show d+2-d=2 by omega];rfl
    obtain⟨bi,bd,gy,cn⟩:=cr.set (d+2) 11 p (Ia p.1 u,p.2) (.int .i64 ((ah-u:Nat):Int)) et Z (by rw[<-fh.q];rfl) rfl rfl;obtain⟨b1,ct⟩:=Qzz (bl.setCell ⟨K,(d+2)*16+11,none⟩ (.int .i64 ((ah-u:Nat):Int)));rw[<-ct]at bi cn;have gu:bl.cell? ⟨K,(d+2)*16+11,none⟩=some (.int .i64 (ah:Nat)):=(by rw[bd,<-fh.q];rfl);rw[zd0 _ _ d _ _ _ _ _ dt]at bi;have d6:k.take d++(Ia h.1 u,h.2)::(C8 (Ju u ar),.slice E G F)::(Ia p.1 u,p.2)::k.drop (i+1)=Lg k d i h p (.slice E G F):=by
     unfold Lg;rw[hv.q,g7.q]
    rw[d6]at bi;have el:Below wc wc b1:=cn wc er wc (cm wc er wc ek);have du:=zkf k d i h p (.slice E G F) Z a1.q C.q hz.q hw.q;have eb:U (P8 R w a9 (Lg k d i h p (.slice E G F)) (d+2) (some ⟨K,0,none⟩) b1):=V ⟨bi.row,λf j r=>(bi.Ab f j r).move (λ_ z=>⟨z.1,z.2.1⟩) (λ_ _=>rfl),by have:=D.q.size;omega,zat (λj=>j.n<=1000000) k d i h p _ a1.q C.q D.q.nums (λj n m=>m) (λjz=>by simp[C8]),λac m=>D.q.toL ac (.step _ _ ac (by rw[List.length_map];exact c8) (by rw[hx.q];rw[zm3]at m;exact m)),D.q.below.trans (el.mono D.q.below.size)⟩;have hi:d+1+1+ab<=a3:=by
     rcases bo.own.2 with ⟨o,_⟩|⟨_,_,_,o,_,_,g1,_⟩
     ·cases o
     injection o with _ _ ak
     rw[<-cl,Qa,b3,Qf,cs.q]at g1;omega
    have jg:K<aq.heap.size:=e3;have jh:K<bl:=(by rw[b7];simpa [World.setCell]using e3);have ha:=V b7;have hb:=V ct;have cd:=V du;have jw:IntKind.i64.wrap ((ai:Int)-(u:Int))=((ai-u:Nat):Int):=(by rw[Sqe];omega);have jv:IntKind.i64.wrap ((ah:Int)-(u:Int))=((ah-u:Nat):Int):=(by rw[Sqe];omega);have i6:(d:Int)<(d:Int)+1+1+(ab:Int):=Z;have i7:(d:Int)+2<(d:Int)+1+1+(ab:Int):=Z;have i8:(0:Int)<=(d:Int)+2:=Z;clear fe ex eh bo ek cl es cr d5 b7 et bi bd ct d6 el du cm cn ee e7 fa fd dd D;go_upto_region 23 with fail
    rw[<-ha.q];clear gt gx;go_upto_region 24 with fail
    rw[<-hb.q];clear gu gy;go_wp2;go_roundg (k.length-i+Ct (Lg k d i h p (.slice E G F)))
    case rel=>exact⟨d+1+1+ab,d+2,a3,some ⟨K,0,none⟩,rfl,by go_num,Z,hi,by have:=cs.q;have:=cd.q.2;have:=eb.q.size;omega,V ⟨Lg k d i h p (.slice E G F),by have:=cs.q;have:=cd.q.2;omega,by have:=cd.q.2;omega,eb.q⟩⟩
    case measure=>have:=c0.q;have:=cd.q.1;omega
  have hk:i=k.length:=Z;have g6:¬(i:Int)<(k.length:Int):=Z;have b4:U (Calls prog 191 #[.slice bm k.length T] wr λe w2=>∃A ac,e=.returned A/\Bv w2 (λj=>R j/\j<w2) A ac/\U (Ii a9 0 ac)/\Below w w w2):=V (by
   have:=MK (λj=>R j/\j<wr) bm T k wr au.q.row au.q.Ab (λj W=>W.2) Z (by have:=au.q.size;omega);refine this.mono ?_;rintro e w2⟨A,rfl,av,a6⟩;have jc:=a6.size;refine⟨A,_,rfl,av.move (λL z=>by rcases z with m|m;exact⟨m.1,Z⟩;exact⟨d8.q L Z,m.2⟩) (λ_ _=>rfl),V (au.q.toL _ (.done _ _ (by rw[List.length_map];omega))),au.q.below.trans (a6.mono h7)⟩)
  clear hk;go_wp2_with fail
  apply b4.m;rintro e w2⟨A,ac,rfl,av,h3,a6⟩;have h0:=V av;have hf:=V a6;clear av a6;go_wp2;go_ret;exact⟨A,ac,rfl,h0.q,h3,hf.q⟩
