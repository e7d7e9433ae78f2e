import Derived.Test.YtlojgpkajkedeaaGreatDoorNRZ
import Derived.Deep.LoopGhost
set_option maxHeartbeats 16000000
set_option maxRecDepth 100000
namespace Go.Proofs.YtlojgpkajkedeaaGreatDoor
open Go.RowKit Go.Proofs.Tryz
structure PLp (D:Nat->Prop)(w:World)(l0:List RPt)(qs:List (RPt × Value))(i:Nat)(a:Option Addr)(wr:World):Prop where
 row:PRow wr a qs
 kids:∀(j:Nat) (p:RPt × Value),qs[j]?=some p->RepN wr (λx=>D x/\x<wr.heap.size) p.2 p.1.node.kids
 size:qs.length+zc8 qs<=4000000
 nums:∀(j:Nat) (p:RPt × Value),qs[j]?=some p->p.1.n<=1000000
 toL:∀ns,zeq (qs.map Prod.fst) i ns->zeq l0 0 ns
 below:Below w.heap.size w wr
theorem PLp.after {D:Nat->Prop}{w:World}{l0:List RPt}{qs:List (RPt × Value)}{i:Nat}{a:Option Addr}{wr wx:World}(h:PLp D w l0 qs i a wr)(hb:Below wr.heap.size wr wx):PLp D w l0 qs i a wx:=
 ⟨h.row.below hb,λj p hp=>(h.kids j p hp).move (λ_ hx=>⟨hx.1,Qh hx.2 hb.size⟩) (λx hx=>hb.block x hx.2),h.size,h.nums,h.toL,h.below.trans (hb.mono h.below.size)⟩
def jInt:Option Nat->Int
 | none=>-1
 | some j=>(j:Int)
theorem PRow.cell {w:World}{a:Option Addr}{qs:List (RPt × Value)}(h:PRow w a qs)(i:Nat)(p:RPt × Value)(hp:qs[i]?=some p):∃b o,a=some ⟨b,o,none⟩/\b<w.heap.size:=by
 rcases h with h|⟨b,o,h1,h2,h3⟩
 ·subst h;simp at hp
 ·exact⟨b,o,h1,h2⟩
theorem PRow.at_ {w:World}{b o:Nat}{qs:List (RPt × Value)}(h:PRow w (some ⟨b,o,none⟩) qs)(i:Nat)(p:RPt × Value)(hp:qs[i]?=some p)(j:Nat)(u:Value)(hu:(pt16 p.1 p.2)[j]?=some u):w.cell? ⟨b,o+i*16+j,none⟩=some u:=by
 rcases h with h|⟨b',o',h1,h2,h3⟩
 ·subst h;simp at hp
 ·injection h1 with h1
  injection h1 with e1 e2
  subst e1 e2;exact h3 i p hp j u hu
theorem zls (D:Nat->Prop)(a:Option Addr)(cap:Nat)(ps:List (RPt × Value))(w:World)(hcap:ps.length<=cap)(hrow:PRow w a ps)(hkid:∀(i:Nat) (p:RPt × Value),ps[i]?=some p->RepN w (λx=>D x/\x<w.heap.size) p.2 p.1.node.kids)(hsz:ps.length+zc8 ps<=4000000)(hn:∀(i:Nat) (p:RPt × Value),ps[i]?=some p->p.1.n<=1000000)(hD:∀x,w.heap.size<=x->D x):Calls prog 140 #[.slice a ps.length cap] w λe w'=>∃v ns,e=.returned v/\RepN w' (λx=>D x/\x<w'.heap.size) v ns/\Hid (zeq (ps.map Prod.fst) 0 ns)/\Below w.heap.size w w':=by
 obtain⟨i0,hi',hi0,hi1,hi2⟩:=info_parts Tryz.zm9;obtain⟨l0,hl0⟩:=Qyy (ps.map Prod.fst);have hst:Hid (PLp D w l0 ps 0 a w):=hid ⟨hrow,hkid,hsz,hn,λns h=>by rw[<-hl0];exact h,Below.refl _ _⟩;rw[hl0];have hnl:ps.length<=4000000:=by omega
 have hDH:=hid hD;clear hrow hkid hn hl0 hD;go_enter func140,ntmps140;go_upto_region 2 with fail
 go_loopg [0,3,4,5,6,7,8,9] (ps.length+zc8 ps) (λgk lv iv _ _ _ _ _ _ wr=>∃(n' i cap':Nat) (a':Option Addr),lv=.slice a' n' cap'/\iv=.int .i64 (i:Nat)/\i<=n'/\n'<=cap'/\n'<=4000000/\Hid (∃qs,n'=qs.length/\qs.length+zc8 qs=gk+i/\PLp D w l0 qs i a' wr))
 case atStart=>exact⟨ps.length,0,cap,a,rfl,rfl,Qt _,hcap,hnl,hid ⟨ps,rfl,rfl,hst.out⟩⟩
 case round=>
  obtain⟨n',i,cap',a',rfl,rfl,hi,yx,hn4,hr⟩:=hrel;clear hst;obtain⟨qs,hn',hgk,hP⟩:=hr.out;subst hn';clear hr;have kg:=hid hP;have qy:=hid hgk;have hwsz:w.heap.size<=wr.heap.size:=hP.below.size;clear hP hgk;by_cases hlt:i<qs.length
  ·obtain⟨p,hp⟩:∃p,qs[i]?=some p:=⟨qs[i],Qg hlt⟩;obtain⟨b,o,rfl,hbw⟩:=kg.out.row.cell i p hp;obtain⟨pa,pn,pc,hpv⟩:=(kg.out.kids i p hp).form;have gy:=kg.out.row;have P0:wr.cell? ⟨b,o+i*16,none⟩=some (.int .i64 p.1.what):=gy.at_ i p hp 0 _ rfl;have vv:wr.cell? ⟨b,o+i*16+11,none⟩=some (.int .i64 (p.1.left:Nat)):=gy.at_ i p hp 11 _ rfl;have P13:wr.cell? ⟨b,o+i*16+13,none⟩=some (.bool p.1.cl):=gy.at_ i p hp 13 _ rfl;obtain⟨FD,hFD⟩:=Qyy ((if p.1.what=2/\p.1.cl=true/\0<p.1.left then zc2 (qs.map Prod.fst) p.1 i else none))
   have bg:=hid hp;have hpvH:=hid hpv;have jh:=hid hFD;have hJ1:(i:Int)<(qs.length:Int):=by omega
   have hJ0:(0:Int)<=(i:Int):=by omega
   obtain⟨hc,hhc⟩:=Qyy (decide (p.1.what=2/\p.1.cl=true/\0<p.1.left));have qx:=hid hhc;clear hp hpv hFD gy hhc;obtain⟨pw,hpw⟩:∃x,p.1.what=x:=⟨_,rfl⟩;obtain⟨pl,hpl⟩:∃x,p.1.left=x:=⟨_,rfl⟩;obtain⟨pcl,qj⟩:∃x,p.1.cl=x:=⟨_,rfl⟩;rw[hpw] at P0;rw[hpl] at vv;rw[qj] at P13;have hfl:=hid (And.intro hpw (And.intro hpl qj));clear hpw hpl qj;rename World=>wo
   go_upto_region 4 with fail
   go_cut [34] (λs34 wx=>s34=.bool hc/\wo=wx)
   case first=>
    as_aux_lemma=>
    have hcv:Hid (hc=decide (pw=2/\pcl=true/\0<pl)):=hid (by rw[<-qx.out,hfl.out.1,hfl.out.2.1,hfl.out.2.2]);by_cases h1:pw=2
    ·have e1:((pw:Int) == 2)=true:=(by rw[beq_iff_eq];exact h1);cases pcl
     ·have he:Hid (hc=false):=hid (by rw[hcv.out];simp);clear h1;go_wp2;go_meet;exact⟨by rw[he.out],rfl⟩
     ·by_cases h2:0<pl
      ·have he:Hid (hc=true):=hid (by rw[hcv.out];simp[h1,h2]);have h2':(0:Int)<(pl:Int):=(by omega);clear h1;go_wp2;go_meet;exact⟨by rw[he.out],rfl⟩
      ·have he:Hid (hc=false):=hid (by rw[hcv.out];simp[h2]);have h2':¬(0:Int)<(pl:Int):=(by omega);clear h1;go_wp2;go_meet;exact⟨by rw[he.out],rfl⟩
    ·have e1:((pw:Int) == 2)=false:=(by rw[Qe];exact h1);have he:Hid (hc=false):=hid (by rw[hcv.out];simp[h1]);clear h1;go_wp2;go_meet;exact⟨by rw[he.out],rfl⟩
   case rest=>
   obtain⟨rfl,rfl⟩:=hcut;go_upto_if 34 with fail
   go_cut [4,5,6] (λs4 _ _ wx=>s4=.int .i64 (jInt FD)/\Hid (Below wo.heap.size wo wx))
   case first=>
    as_aux_lemma=>
    cases hc
    ·have he:Hid (FD=none):=hid (by rw[<-jh.out,if_neg (of_decide_eq_false qx.out)]);go_wp2;go_meet;exact⟨by rw[he.out];rfl,hid (Below.refl _ _)⟩
    ·have he:Hid (FD=zc2 (qs.map Prod.fst) p.1 i):=hid (by rw[<-jh.out,if_pos (of_decide_eq_true qx.out)]);have hw1:IntKind.i64.wrap ((i:Int)-1)=(i:Int)-1:=(by rw[IntKind.wrap_i64];omega);go_upto_region 6 with fail
     clear P0 vv P13;go_loopw [4,5,6] (λjv kv _ wx=>∃(t:Nat) (jr:Option Nat),t<=i/\kv=.int .i64 ((t:Int)-1)/\jv=.int .i64 (jInt jr)/\Hid ((jr=none/\FD=zc2 (qs.map Prod.fst) p.1 t)\/(jr≠none/\FD=jr))/\Hid (Below wo.heap.size wo wx)) (λ_ kv _ _=>(intOf kv+1).toNat)
     case atStart=>exact⟨i,none,Qc _,rfl,rfl,hid (.inl ⟨rfl,he.out⟩),hid (Below.refl _ _)⟩
     case round=>
     obtain⟨t,jr,ht,rfl,rfl,hf,hbx⟩:=hrel;clear hw1;by_cases hex:jr≠none\/t=0
     ·have hres:Hid (FD=jr):=hid (by
       rcases hf.out with ⟨h1,h2⟩|⟨h1,h2⟩
       ·rcases hex with h|h
        ·exact absurd h1 h
        ·subst h;rw[h2,h1];rfl
       ·exact h2)
      clear hf;cases jr with
      | none=>
       have ht0:t=0:=by rcases hex with h|h;exact absurd rfl h;exact h
       subst ht0;rw[show jInt none = -1 from rfl];clear hex;go_wp2;go_meet;exact⟨by rw[hres.out];rfl,hbx⟩
      | some j=>
       rw[show jInt (some j)=(j:Int) from rfl];clear hex;have hj9:¬(j:Int)<0:=(by omega);by_cases ht0:t=0
       ·subst ht0;go_wp2;go_meet;exact⟨by rw[hres.out];rfl,hbx⟩
       ·have ht9:(0:Int)<=(t:Int)-1:=(by omega);have ht8:(1:Int)<=(t:Int):=(by omega);go_wp2;go_meet;exact⟨by rw[hres.out];rfl,hbx⟩
     ·have hjr:jr=none:=by
       cases jr with
       | none=>rfl
       | some j=>exact absurd (.inl (by simp)) hex
      subst hjr;obtain⟨k,rfl⟩:∃k,t=k+1:=⟨t-1,by have:¬t=0:=λh=>hex (.inr h);omega⟩;have yt:Hid (FD=zc2 (qs.map Prod.fst) p.1 (k+1)):=hid (by
       rcases hf.out with ⟨_,h2⟩|⟨h1,_⟩
       ·exact h2
       ·exact absurd rfl h1)
      clear hex hf;rw[show jInt none = -1 from rfl,show ((k+1:Nat):Int)-1=(k:Int) by omega];have hkl:k<qs.length:=(by omega);obtain⟨q,hq⟩:∃q,qs[k]?=some q:=⟨qs[k],Qg hkl⟩;have hPx:=kg.out.after hbx.out;obtain⟨qa,qn,qc,hqv⟩:=(hPx.kids k q hq).form;haveI hNE:Nonempty (Bk wr):=⟨⟨wr,Below.refl _ _⟩⟩;have zk:b<wr.heap.size:=Qh hbw hbx.out.size;have hat:∀(kk:Bk wr) (i:Nat) (p:RPt × Value),qs[i]?=some p->∀j u,(pt16 p.1 p.2)[j]?=some u->kk.w.cell? ⟨b,o+i*16+j,none⟩=some u:=λkk i p hp j u hu=>(kk.h.cell (p:=⟨b,o+i*16+j,none⟩) zk).trans (hPx.row.at_ i p hp j u hu);have Q0:∀kk:Bk wr,kk.w.cell? ⟨b,o+k*16,none⟩=some (.int .i64 q.1.what):=λkk=>hat kk k q hq 0 _ rfl;have Q1:∀kk:Bk wr,kk.w.cell? ⟨b,o+k*16+1,none⟩=some (.string (S.B q.1.s)):=λkk=>hat kk k q hq 1 _ rfl;have Q2:∀kk:Bk wr,kk.w.cell? ⟨b,o+k*16+2,none⟩=some (.int .i64 0):=λkk=>hat kk k q hq 2 _ rfl;have Q3:∀kk:Bk wr,kk.w.cell? ⟨b,o+k*16+3,none⟩=some (.int .i64 q.1.node.kind):=λkk=>hat kk k q hq 3 _ rfl;have Q4:∀kk:Bk wr,kk.w.cell? ⟨b,o+k*16+4,none⟩=some (.int .i64 q.1.node.n):=λkk=>hat kk k q hq 4 _ rfl;have Q5:∀kk:Bk wr,kk.w.cell? ⟨b,o+k*16+5,none⟩=some (.string (S.B q.1.node.info)):=λkk=>hat kk k q hq 5 _ rfl;have Q6:∀kk:Bk wr,kk.w.cell? ⟨b,o+k*16+6,none⟩=some (.string (S.B q.1.node.text)):=λkk=>hat kk k q hq 6 _ rfl;have Q7:∀kk:Bk wr,kk.w.cell? ⟨b,o+k*16+7,none⟩=some (.int .i64 q.1.node.line):=λkk=>hat kk k q hq 7 _ rfl;have Q8:∀kk:Bk wr,kk.w.cell? ⟨b,o+k*16+8,none⟩=some (.slice qa qn qc):=λkk=>by rw[<-hqv];exact hat kk k q hq 8 _ rfl
      have Q9:∀kk:Bk wr,kk.w.cell? ⟨b,o+k*16+9,none⟩=some (.int .u8 (q.1.c.toNat:Int)):=λkk=>hat kk k q hq 9 _ rfl;have Q10:∀kk:Bk wr,kk.w.cell? ⟨b,o+k*16+10,none⟩=some (.int .i64 (q.1.n:Nat)):=λkk=>hat kk k q hq 10 _ rfl;have Q11:∀kk:Bk wr,kk.w.cell? ⟨b,o+k*16+11,none⟩=some (.int .i64 (q.1.left:Nat)):=λkk=>hat kk k q hq 11 _ rfl;have Q12:∀kk:Bk wr,kk.w.cell? ⟨b,o+k*16+12,none⟩=some (.bool q.1.op):=λkk=>hat kk k q hq 12 _ rfl;have Q13:∀kk:Bk wr,kk.w.cell? ⟨b,o+k*16+13,none⟩=some (.bool q.1.cl):=λkk=>hat kk k q hq 13 _ rfl;have Q14:∀kk:Bk wr,kk.w.cell? ⟨b,o+k*16+14,none⟩=some (.bool q.1.im):=λkk=>hat kk k q hq 14 _ rfl;have Q15:∀kk:Bk wr,kk.w.cell? ⟨b,o+k*16+15,none⟩=some (.bool q.1.dead):=λkk=>hat kk k q hq 15 _ rfl;have R0:∀kk:Bk wr,kk.w.cell? ⟨b,o+i*16,none⟩=some (.int .i64 p.1.what):=λkk=>hat kk i p bg.out 0 _ rfl;have R1:∀kk:Bk wr,kk.w.cell? ⟨b,o+i*16+1,none⟩=some (.string (S.B p.1.s)):=λkk=>hat kk i p bg.out 1 _ rfl;have R2:∀kk:Bk wr,kk.w.cell? ⟨b,o+i*16+2,none⟩=some (.int .i64 0):=λkk=>hat kk i p bg.out 2 _ rfl;have R3:∀kk:Bk wr,kk.w.cell? ⟨b,o+i*16+3,none⟩=some (.int .i64 p.1.node.kind):=λkk=>hat kk i p bg.out 3 _ rfl;have R4:∀kk:Bk wr,kk.w.cell? ⟨b,o+i*16+4,none⟩=some (.int .i64 p.1.node.n):=λkk=>hat kk i p bg.out 4 _ rfl;have R5:∀kk:Bk wr,kk.w.cell? ⟨b,o+i*16+5,none⟩=some (.string (S.B p.1.node.info)):=λkk=>hat kk i p bg.out 5 _ rfl;have R6:∀kk:Bk wr,kk.w.cell? ⟨b,o+i*16+6,none⟩=some (.string (S.B p.1.node.text)):=λkk=>hat kk i p bg.out 6 _ rfl;have R7:∀kk:Bk wr,kk.w.cell? ⟨b,o+i*16+7,none⟩=some (.int .i64 p.1.node.line):=λkk=>hat kk i p bg.out 7 _ rfl;have R8:∀kk:Bk wr,kk.w.cell? ⟨b,o+i*16+8,none⟩=some (.slice pa pn pc):=λkk=>by rw[<-hpvH.out];exact hat kk i p bg.out 8 _ rfl
      have R9:∀kk:Bk wr,kk.w.cell? ⟨b,o+i*16+9,none⟩=some (.int .u8 (p.1.c.toNat:Int)):=λkk=>hat kk i p bg.out 9 _ rfl;have R10:∀kk:Bk wr,kk.w.cell? ⟨b,o+i*16+10,none⟩=some (.int .i64 (p.1.n:Nat)):=λkk=>hat kk i p bg.out 10 _ rfl;have R11:∀kk:Bk wr,kk.w.cell? ⟨b,o+i*16+11,none⟩=some (.int .i64 (p.1.left:Nat)):=λkk=>hat kk i p bg.out 11 _ rfl;have R12:∀kk:Bk wr,kk.w.cell? ⟨b,o+i*16+12,none⟩=some (.bool p.1.op):=λkk=>hat kk i p bg.out 12 _ rfl;have R13:∀kk:Bk wr,kk.w.cell? ⟨b,o+i*16+13,none⟩=some (.bool p.1.cl):=λkk=>hat kk i p bg.out 13 _ rfl;have R14:∀kk:Bk wr,kk.w.cell? ⟨b,o+i*16+14,none⟩=some (.bool p.1.im):=λkk=>hat kk i p bg.out 14 _ rfl;have R15:∀kk:Bk wr,kk.w.cell? ⟨b,o+i*16+15,none⟩=some (.bool p.1.dead):=λkk=>hat kk i p bg.out 15 _ rfl;obtain⟨f,hfv⟩:=Qyy (zxt q.1 p.1);have zx:Hid (∀kk:Bk wr,Calls prog 190 #[.agg #[.int .i64 q.1.what,.string (S.B q.1.s),.int .i64 0,.int .i64 q.1.node.kind,.int .i64 q.1.node.n,.string (S.B q.1.node.info),.string (S.B q.1.node.text),.int .i64 q.1.node.line,.slice qa qn qc,.int .u8 (q.1.c.toNat:Int),.int .i64 (q.1.n:Nat),.int .i64 (q.1.left:Nat),.bool q.1.op,.bool q.1.cl,.bool q.1.im,.bool q.1.dead],.agg #[.int .i64 p.1.what,.string (S.B p.1.s),.int .i64 0,.int .i64 p.1.node.kind,.int .i64 p.1.node.n,.string (S.B p.1.node.info),.string (S.B p.1.node.text),.int .i64 p.1.node.line,.slice pa pn pc,.int .u8 (p.1.c.toNat:Int),.int .i64 (p.1.n:Nat),.int .i64 (p.1.left:Nat),.bool p.1.op,.bool p.1.cl,.bool p.1.im,.bool p.1.dead]] kk.w λe w'=>e=.returned (.bool f)/\Below wr.heap.size wr w'):=hid (λkk=>by
       have:=zzf q.1 p.1 qa pa qn qc pn pc kk.w (hPx.nums k q hq) (hPx.nums i p bg.out);rw[hfv] at this;exact this.mono (λe w' ⟨h1,h2⟩=>⟨h1,kk.h.trans (h2.mono kk.h.size)⟩))
      have hJk:(k:Int)<(qs.length:Int):=(by omega);have hJk0:(0:Int)<=(k:Int):=(by omega);have lg:=hid hq;have zh:Hid (∀wx,Below wr.heap.size wr wx->Below wo.heap.size wo wx):=hid (λwx hx=>hbx.out.trans (hx.mono hbx.out.size));have hatH:=hid hat;have hfvH:=hid hfv;have hwk:IntKind.i64.wrap ((k:Int)-1)=(k:Int)-1:=(by rw[IntKind.wrap_i64];omega);clear hq hPx hqv hat hfv;go_upto_region 8 with fail
      go_cut [6] (λs6 wx=>s6=.bool f/\Hid (Below wr.heap.size wr wx))
      case first=>
       as_aux_lemma=>
       refine zar (by kernel_rfl) (by kernel_rfl) ?_;repeat (go_big_quiet_step ((rename_i kk;exact(zx.out kk).mono (λe w' h=>⟨h.1,⟨w',h.2⟩,rfl⟩))))
       refine wpQuiet_nil ?_;intro _ hw';obtain⟨kq,hw''⟩:=hw';subst hw'';go_wp2;go_meet;exact⟨rfl,hid kq.h⟩
      case rest=>
      obtain⟨rfl,jd⟩:=hcut;clear Q0 Q1 Q2 Q3 Q4 Q5 Q6 Q7 Q8 Q9 Q10 Q11 Q12 Q13 Q14 Q15 R0 R1 R2 R3 R4 R5 R6 R7 R8 R9 R10 R11 R12 R13 R14 R15 zx;haveI hNE2:Nonempty (Bk wc):=⟨⟨wc,Below.refl _ _⟩⟩;have jg:∀(kk:Bk wc) (i:Nat) (p:RPt × Value),qs[i]?=some p->∀j u,(pt16 p.1 p.2)[j]?=some u->kk.w.cell? ⟨b,o+i*16+j,none⟩=some u:=λkk i p hp j u hu=>hatH.out ⟨kk.w,jd.out.trans (kk.h.mono jd.out.size)⟩ i p hp j u hu;obtain⟨qw,hqw⟩:∃x,q.1.what=x:=⟨_,rfl⟩;obtain⟨ql,hql⟩:∃x,q.1.left=x:=⟨_,rfl⟩;obtain⟨qo,hqo⟩:∃x,q.1.op=x:=⟨_,rfl⟩;obtain⟨q9,hq9⟩:∃x,q.1.c=x:=⟨_,rfl⟩;obtain⟨p9,hp9⟩:∃x,p.1.c=x:=⟨_,rfl⟩;have S0:∀kk:Bk wc,kk.w.cell? ⟨b,o+k*16,none⟩=some (.int .i64 qw):=λkk=>by rw[<-hqw];exact jg kk k q lg.out 0 _ rfl
      have S9:∀kk:Bk wc,kk.w.cell? ⟨b,o+k*16+9,none⟩=some (.int .u8 (q9.toNat:Int)):=λkk=>by rw[<-hq9];exact jg kk k q lg.out 9 _ rfl
      have S11:∀kk:Bk wc,kk.w.cell? ⟨b,o+k*16+11,none⟩=some (.int .i64 (ql:Nat)):=λkk=>by rw[<-hql];exact jg kk k q lg.out 11 _ rfl
      have S12:∀kk:Bk wc,kk.w.cell? ⟨b,o+k*16+12,none⟩=some (.bool qo):=λkk=>by rw[<-hqo];exact jg kk k q lg.out 12 _ rfl
      have T9:∀kk:Bk wc,kk.w.cell? ⟨b,o+i*16+9,none⟩=some (.int .u8 (p9.toNat:Int)):=λkk=>by rw[<-hp9];exact jg kk i p bg.out 9 _ rfl
      obtain⟨ok,hok⟩:=Qyy (zei q.1 p.1);have jw:Hid (ok=(decide (qw=2)&&decide (q9=p9)&&qo&&decide (0<ql)&&f)):=hid (by rw[<-hok,<-hqw,<-hql,<-hqo,<-hq9,<-hp9,<-hfvH.out];rfl);have yj:Hid (FD=if ok=true then some k else zc2 (qs.map Prod.fst) p.1 k):=hid (by
       rw[yt.out];simp only[zc2];have h1:(qs.map Prod.fst)[k]?=some q.1:=(by rw[List.getElem?_map,lg.out];rfl);rw[h1,<-hok])
      have tq:b<wc.heap.size:=Qh zk jd.out.size;clear jg hqw hql hqo hq9 hp9 hok;go_upto_region 9 with fail
      go_cut [90] (λs90 wx=>s90=.bool ok/\Hid (Below wr.heap.size wr wx))
      case first=>
       as_aux_lemma=>
       by_cases h1:qw=2
       ·have e1:((qw:Int) == 2)=true:=(by rw[beq_iff_eq];exact h1);by_cases h2:q9=p9
        ·have e2:((q9.toNat:Int) == (p9.toNat:Int))=true:=(by rw[beq_iff_eq,h2]);cases qo
         ·have he:Hid (ok=false):=hid (by rw[jw.out];simp);clear h1 h2;refine zar (by kernel_rfl) (by kernel_rfl) ?_;repeat (go_big_quiet_step (fail))
          refine wpQuiet_nil ?_;intro _ hw';obtain⟨kq,hw''⟩:=hw';subst hw'';go_wp2;go_meet;exact⟨by rw[he.out],hid (jd.out.trans (kq.h.mono jd.out.size))⟩
         ·by_cases h3:0<ql
          ·have e3:(0:Int)<(ql:Int):=(by omega);have e3d:decide ((0:Int)<(ql:Int))=true:=decide_eq_true e3;have he:Hid (ok=f):=hid (by rw[jw.out];simp[h1,h2,h3]);have e3e:decide (0<ql)=true:=decide_eq_true h3;clear h1 h2;refine zar (by kernel_rfl) (by kernel_rfl) ?_;repeat (go_big_quiet_step (fail))
           refine wpQuiet_nil ?_;intro _ hw';obtain⟨kq,hw''⟩:=hw';subst hw'';go_wp2;go_meet;exact⟨by rw[he.out],hid (jd.out.trans (kq.h.mono jd.out.size))⟩
          ·have he:Hid (ok=false):=hid (by rw[jw.out];simp[h3]);have h30:ql=0:=(by omega);subst h30;clear h1 h2 h3;refine zar (by kernel_rfl) (by kernel_rfl) ?_;repeat (go_big_quiet_step (fail))
           refine wpQuiet_nil ?_;intro _ hw';obtain⟨kq,hw''⟩:=hw';subst hw'';go_wp2;go_meet;exact⟨by rw[he.out],hid (jd.out.trans (kq.h.mono jd.out.size))⟩
        ·have e2:((q9.toNat:Int) == (p9.toNat:Int))=false:=by
          rw[Qe];intro h;exact h2 (Qk.1 (by omega))
         have he:Hid (ok=false):=hid (by rw[jw.out];simp[h2]);clear h1 h2;refine zar (by kernel_rfl) (by kernel_rfl) ?_;repeat (go_big_quiet_step (fail))
         refine wpQuiet_nil ?_;intro _ hw';obtain⟨kq,hw''⟩:=hw';subst hw'';go_wp2;go_meet;exact⟨by rw[he.out],hid (jd.out.trans (kq.h.mono jd.out.size))⟩
       ·have e1:((qw:Int) == 2)=false:=(by rw[Qe];exact h1);have he:Hid (ok=false):=hid (by rw[jw.out];simp[h1]);clear h1;refine zar (by kernel_rfl) (by kernel_rfl) ?_;repeat (go_big_quiet_step (fail))
        refine wpQuiet_nil ?_;intro _ hw';obtain⟨kq,hw''⟩:=hw';subst hw'';go_wp2;go_meet;exact⟨by rw[he.out],hid (jd.out.trans (kq.h.mono jd.out.size))⟩
      case rest=>
      obtain⟨rfl,zm⟩:=hcut;clear S0 S9 S11 S12 T9;cases ok
      ·have qz:Hid (FD=zc2 (qs.map Prod.fst) p.1 k):=hid (by rw[yj.out];rfl);go_wp2;go_roundw
       case rel=>exact⟨k,none,by omega,by first|rfl|go_num,rfl,hid (.inl ⟨rfl,qz.out⟩),hid (zh.out _ zm.out)⟩
       case measure=>simp[intOf]
      ·have qz:Hid (FD=some k):=hid (by rw[yj.out];rfl);go_wp2;go_roundw
       case rel=>exact⟨k,some k,by omega,by first|rfl|go_num,rfl,hid (.inr ⟨by simp,qz.out⟩),hid (zh.out _ zm.out)⟩
       case measure=>simp[intOf]
   case rest=>
   obtain⟨rfl,hb4⟩:=hcut;clear P0 vv P13;have dh:=hid (kg.out.after hb4.out);have hwo:wo.heap.size<=wc.heap.size:=hb4.out.size;have hmap:Hid ((qs.map Prod.fst)[i]?=some p.1):=hid (by rw[List.getElem?_map,bg.out];rfl);cases FD with
   | none=>
    rw[show jInt none = -1 from rfl];have hN:Hid (PLp D w l0 qs (i+1) (some ⟨b,o,none⟩) wc):=hid ⟨dh.out.row,dh.out.kids,dh.out.size,dh.out.nums,λns h=>dh.out.toL ns (.step _ _ ns (by rw[List.length_map];exact hlt) (by rw[zgc _ _ _ hmap.out jh.out];exact h)),dh.out.below⟩;clear dh;go_wp2;go_roundg (gk-1)
    case rel=>exact⟨qs.length,i+1,cap',some ⟨b,o,none⟩,rfl,by go_num,by omega,yx,hn4,hid ⟨qs,rfl,by have:=qy.out;omega,hN.out⟩⟩
    case measure=>have:=qy.out;omega
   | some j=>
    rw[show jInt (some j)=(j:Int) from rfl];have hcond:p.1.what=2/\p.1.cl=true/\0<p.1.left:=by
     by_cases h:p.1.what=2/\p.1.cl=true/\0<p.1.left
     ·exact h
     ·have:=jh.out;rw[if_neg h] at this;cases this
    have yt:=jh.out;rw[if_pos hcond] at yt;obtain⟨hji,q1,hq1,hop⟩:=zi6 _ _ _ _ yt;have hjl:j<qs.length:=(by omega);obtain⟨q,hq⟩:∃q,qs[j]?=some q:=⟨qs[j],Qg hjl⟩;have hqm:(qs.map Prod.fst)[j]?=some q.1:=(by rw[List.getElem?_map,hq];rfl);have hq11:q1=q.1:=(by rw[hqm] at hq1;exact(Qy hq1).symm);rw[hq11] at hop;have xg:0<q.1.left:=by
     unfold zei at hop;simp only[Bool.and_eq_true,decide_eq_true_iff] at hop;exact hop.1.2
    have yc:=hcond.2.2;have vv:wc.cell? ⟨b,o+i*16+11,none⟩=some (.int .i64 (p.1.left:Nat)):=dh.out.row.at_ i p bg.out 11 _ rfl;have Q11:wc.cell? ⟨b,o+j*16+11,none⟩=some (.int .i64 (q.1.left:Nat)):=dh.out.row.at_ j q hq 11 _ rfl;obtain⟨jl,lq⟩:∃x,p.1.left=x:=⟨_,rfl⟩;obtain⟨jk,kr⟩:∃x,q.1.left=x:=⟨_,rfl⟩;rw[lq] at vv;rw[kr] at Q11;obtain⟨nn,hnn⟩:=Qyy (zfl q.1 p.1);obtain⟨kd,hkd⟩:∃kd:Int,(if nn=2 then 15 else 14)=kd:=⟨_,rfl⟩
    have qm:Hid (nn=if 2<=jl/\2<=jk then 2 else 1):=hid (by rw[<-hnn,<-lq,<-kr];rfl)
    have hnnl:nn<=jl/\nn<=jk:=(by rw[qm.out];split<;>omega);have qp:=hid hkd;have hnnH:=hid hnn;have lg:=hid hq;have ng:=hid lq;have mq:=hid kr;have tq:b<wc.heap.size:=Qh hbw hwo;have hJi0:(0:Int)<=(j:Int):=(by omega);have hJi1:(j:Int)<(qs.length:Int):=(by omega);have hJi2:¬(j:Int)<0:=(by omega);have hps:=hid (zj9 _ _ _ _ _ hmap.out jh.out hqm);have xq:=hid yc;have wm:=hid xg;obtain⟨two,wh⟩:=Qyy (decide (2<=jl/\2<=jk));have dw:=hid wh;have hplt:jl<=4000000/\jk<=4000000:=by
     have h1:=ze8 qs (i+1);have h2:=ze8 qs (j+1);rw[zhi qs i p bg.out] at h1;rw[zhi qs j q hq] at h2;have:=dh.out.size;omega
    clear hcond yt hq1 hop hq hqm hq11 xg yc lq kr hnn hkd wh hb4 hmap;go_upto_region 15 with fail
    go_cut [109] (λs109 wx=>s109=.bool two/\wc=wx)
    case first=>
     by_cases h1:2<=jl
     ·have h1':(2:Int)<=(jl:Int):=(by omega);by_cases h2:2<=jk
      ·have h2':(2:Int)<=(jk:Int):=(by omega);have he:Hid (two=true):=hid (by rw[<-dw.out];simp[h1,h2]);go_wp2;go_meet;exact⟨by rw[he.out],rfl⟩
      ·have h2':¬(2:Int)<=(jk:Int):=(by omega);have he:Hid (two=false):=hid (by rw[<-dw.out];simp[h2]);go_wp2;go_meet;exact⟨by rw[he.out],rfl⟩
     ·have h1':¬(2:Int)<=(jl:Int):=(by omega);have he:Hid (two=false):=hid (by rw[<-dw.out];simp[h1]);go_wp2;go_meet;exact⟨by rw[he.out],rfl⟩
    case rest=>
    obtain⟨rfl,rfl⟩:=hcut;go_upto_if 109 with fail
    go_cut [7,8] (λs7 s8 wx=>s7=.int .i64 (nn:Nat)/\s8=.int .i64 kd/\wc=wx)
    case first=>
     cases two
     ·have he:Hid (nn=1/\kd=14):=hid (by
       have h1:nn=1:=(by rw[qm.out,if_neg (of_decide_eq_false dw.out)]);exact⟨h1,by rw[<-qp.out,h1];rfl⟩)
      go_wp2;go_meet;exact⟨by rw[he.out.1];rfl,by rw[he.out.2],rfl⟩
     ·have he:Hid (nn=2/\kd=15):=hid (by
       have h1:nn=2:=(by rw[qm.out,if_pos (of_decide_eq_true dw.out)]);exact⟨h1,by rw[<-qp.out,h1];rfl⟩)
      go_wp2;go_meet;exact⟨by rw[he.out.1];rfl,by rw[he.out.2],rfl⟩
    case rest=>
    obtain⟨rfl,rfl,rfl⟩:=hcut;clear vv Q11
    have jq:∀wx,Below wc.heap.size wc wx->∀(k:Nat) (x:RPt × Value),qs[k]?=some x->∀jj u,(pt16 x.1 x.2)[jj]?=some u->wx.cell? ⟨b,o+k*16+jj,none⟩=some u:=λwx hx k x hk jj u hu=>(hx.cell (p:=⟨b,o+k*16+jj,none⟩) tq).trans (dh.out.row.at_ k x hk jj u hu);have hone:Hid (∀rs:List (RPt × Value),(∀x∈rs,x∈qs)->∀v∈za9 rs,v.oneCell'=true):=hid (λrs hrs v hv=>by
     unfold za9 at hv;rw[List.mem_flatten] at hv;obtain⟨l,hl,hv⟩:=hv;rw[List.mem_map] at hl;obtain⟨x,hx,rfl⟩:=hl;obtain⟨k,hk⟩:=List.getElem?_of_mem (hrs x hx);obtain⟨xa,xn,xc,hxv⟩:=(dh.out.kids k x hk).form;rw[hxv] at hv;simp only[pt16,List.mem_cons,List.not_mem_nil,or_false] at hv;rcases hv with rfl|rfl|rfl|rfl|rfl|rfl|rfl|rfl|rfl|rfl|rfl|rfl|rfl|rfl|rfl|rfl<;>rfl)
    obtain⟨A1,hA1⟩:=Qyy (qs.take (j+1));have fq:A1.length=j+1:=(by rw[<-hA1,Ql];omega);have zy:(za9 A1).length=(j+1)*16:=(by rw[zc5,fq]);have hnew1:Hid (∀jj u,(za9 A1)[jj]?=some u->wc.cell? ((⟨b,o,none⟩:Addr).add jj)=some u):=hid (PRow.news (λk x hk jj u hu=>jq wc (Below.refl _ _) k x (by
     rw[<-hA1] at hk;rw[List.getElem?_take] at hk;split at hk
     ·exact hk
     ·cases hk) jj u hu))
    have qb:Hid (∀v∈za9 A1,v.oneCell'=true):=hid (hone.out A1 (λx hx=>by rw[<-hA1] at hx;exact List.mem_of_mem_take hx));have hO1:Hid (∀g1 cap1 w1,w1.ownsRow wc.heap.size 196 16 (.slice (some ⟨g1,0,none⟩) (j+1) cap1) (j+1) (za9 A1)->wc.grownBy w1 (Value.slice none 0 0).ownBlock->wc.heap.size<=g1->POwn D wc.heap.size A1 (.slice (some ⟨g1,0,none⟩) (j+1) cap1) w1/\Below wc.heap.size wc w1):=hid (λg1 cap1 w1 h1 h2 h3=>by
     have:=(POwn.nil D wc.heap.size wc).many (rs:=A1) (g:=g1) (cap1:=cap1) (w2:=w1) (λk x hk=>(dh.out.kids k x (by
      rw[<-hA1] at hk;rw[List.getElem?_take] at hk;split at hk
      ·exact hk
      ·cases hk)).move (λy hy=>⟨hy.1,hy.2,by simp[Value.ownBlock]⟩) (λ_ _=>rfl)) (by rw[show ([]:List (RPt × Value)).length+A1.length=j+1 by simp[fq]];exact h1) h2 (.inr h3)
     rw[List.nil_append,fq] at this;exact⟨this,Below.grown (Below.refl _ _) h2 (Qc _) (λq hq=>by simp[Value.ownBlock] at hq)⟩)
    have jm:=hid jq;have hA1H:=hid hA1;have hcapj:j+1<=cap':=(by omega);have hJ5:(j:Int)+1<=(cap':Int):=(by omega);have hJ6:(0:Int)<=(j:Int)+1:=(by omega);clear jq hA1;go_wp2_with (at_builtin;refine wpList_append_lies _ (by rfl) _ _ 194 (by rfl) wc.heap.size 196 i0 (.agg #[.int .i64 0,.string ⟨#[]⟩,.int .i64 0,.int .i64 0,.int .i64 0,.string ⟨#[]⟩,.string ⟨#[]⟩,.int .i64 0,.slice none 0 0,.int .u8 0,.int .i64 0,.int .i64 0,.bool false,.bool false,.bool false,.bool false]) 16 144 underlying194 hi' hi0 hi1 hi2 (by rfl) (by omega) (.slice none 0 0) 0 [] (by rfl) (World.ownsRow_nil _ _ _ _) ⟨b,o,none⟩ (j+1) cap' (za9 A1) (by rfl) zy hnew1.out qb.out (by omega) (by unfold maxLen;omega) (by omega) (Qc _) wc.heap.size rfl ?_)
    intro g1 cap1 w1 hown1 hgrow1 zw hlt1;obtain⟨hP1,hb1⟩:=hO1.out g1 cap1 w1 hown1 hgrow1 (by
     rcases zw with h|h
     ·simp[Value.ownBlock] at h
     ·omega)
    have hg1:wc.heap.size<=g1:=(hP1.own.lt g1 rfl).1;have qh:wc.heap.size<=w1.heap.size:=hb1.size;have hDw:Hid (∀x,wc.heap.size<=x->D x):=hid (λx hx=>hDH.out x (by omega));obtain⟨M0,hM0⟩:=Qyy (((qs.map Prod.fst).take i).drop (j+1));have hNd:Hid (Calls prog 191 #[.slice (some ⟨b,o+(j+1)*16,none⟩) (i-(j+1)) (cap' - (j+1))] w1 λe w2=>∃va vn vc,e=.returned (.slice va vn vc)/\Hid (RepN w2 (λx=>(D x/\x<wc.heap.size)\/(w1.heap.size<=x/\x<w2.heap.size)) (.slice va vn vc) (ze3 M0 [])/\Below w1.heap.size w1 w2)):=hid (by
     have hidx:∀(k:Nat) (x:RPt × Value),((qs.take i).drop (j+1))[k]?=some x->qs[j+1+k]?=some x:=λk x hk=>by
      rw[Qn,List.getElem?_take] at hk;split at hk
      ·exact hk
      ·cases hk
     have hlen:((qs.take i).drop (j+1)).length=i-(j+1):=(by rw[Qf,Ql];omega);have htot:zc8 ((qs.take i).drop (j+1))<=zc8 qs:=by
      have h1:=ze8 qs i;have h2:zc8 (qs.take i)=zc8 ((qs.take i).take (j+1))+zc8 ((qs.take i).drop (j+1)):=(by rw[<-zd7,List.take_append_drop]);omega
     have:=znv (λx=>D x/\x<wc.heap.size) (some ⟨b,o+(j+1)*16,none⟩) (cap' - (j+1)) ((qs.take i).drop (j+1)) w1 (.inr ⟨b,_,rfl,Qh tq qh,λk x hk jj u hu=>by
      have h9:=jm.out w1 hb1 (j+1+k) x (hidx k x hk) jj u hu;rw[show o+(j+1)*16+k*16+jj=o+(j+1+k)*16+jj by omega];exact h9⟩) (λk x hk=>(dh.out.kids _ x (hidx k x hk)).move (λ_ hy=>hy) (λy hy=>hb1.block y hy.2)) (λx hx=>Qh hx.2 qh) (by omega) (by have:=dh.out.size;omega)
     rw[hlen] at this;refine this.mono ?_;rintro e w2⟨v,rfl,hr,hb⟩;obtain⟨va,vn,vc,rfl⟩:=hr.form;refine⟨va,vn,vc,rfl,hid ⟨?_,hb⟩⟩;rw[<-hM0,<-List.map_take,<-List.map_drop];exact hr)
    have hP1H:=hid hP1;have hb1H:=hid hb1;have hM0H:=hid hM0;have hJ7:(j:Int)+1<=(i:Int):=(by omega);have hJ8:(i:Int)<=(cap':Int):=(by omega);have hne1:¬cap'=j+1:=(by omega);have hne2:¬cap'=i:=(by omega);have hJ9:(i:Int)<=(qs.length:Int):=(by omega);clear hown1 hgrow1 zw hP1 hb1 hM0 hO1 hnew1 qb;go_wp2_with (fail);refine hNd.out.mono ?_;rintro e w2⟨va,vn,vc,rfl,hU⟩;have vw:w1.heap.size<=w2.heap.size:=hU.out.2.size;have hown2:Hid (∀ob,(w2.alloc ob).ownsRow wc.heap.size 196 16 (.slice (some ⟨g1,0,none⟩) (j+1) cap1) (j+1) (za9 A1)/\POwn D wc.heap.size A1 (.slice (some ⟨g1,0,none⟩) (j+1) cap1) (w2.alloc ob)):=hid (λob=>by
     have h1:=hP1H.out.after (hU.out.2.alloc vw ob);have h2:=h1.own;rw[fq] at h2;exact⟨h2,h1⟩)
    have hnew2:Hid (∀jj v,([.int .i64 1,.string ⟨#[]⟩,.int .i64 0,.int .i64 kd,.int .i64 0,.string ⟨#[]⟩,.string ⟨#[]⟩,.int .i64 0,.slice va vn vc,.int .u8 0,.int .i64 0,.int .i64 0,.bool false,.bool false,.bool false,.bool false]:List Value)[jj]?=some v->(w2.alloc (.cells #[.int .i64 1,.string ⟨#[]⟩,.int .i64 0,.int .i64 kd,.int .i64 0,.string ⟨#[]⟩,.string ⟨#[]⟩,.int .i64 0,.slice va vn vc,.int .u8 0,.int .i64 0,.int .i64 0,.bool false,.bool false,.bool false,.bool false] 196)).cell? ((⟨w2.heap.size,0,none⟩:Addr).add jj)=some v):=hid (λjj v hj=>World.news_of_block (za1 _ _) jj v (by exact hj));have pz:Hid (∀v∈([.int .i64 1,.string ⟨#[]⟩,.int .i64 0,.int .i64 kd,.int .i64 0,.string ⟨#[]⟩,.string ⟨#[]⟩,.int .i64 0,.slice va vn vc,.int .u8 0,.int .i64 0,.int .i64 0,.bool false,.bool false,.bool false,.bool false]:List Value),v.oneCell'=true):=hid (by
     intro v hv;simp only[List.mem_cons,List.not_mem_nil,or_false] at hv;rcases hv with rfl|rfl|rfl|rfl|rfl|rfl|rfl|rfl|rfl|rfl|rfl|rfl|rfl|rfl|rfl|rfl<;>rfl)
    have hO2:Hid (∀ob g2 cap2 w3,w3.ownsRow wc.heap.size 196 16 (.slice (some ⟨g2,0,none⟩) (j+1+1) cap2) (j+1+1) (za9 A1++[.int .i64 1,.string ⟨#[]⟩,.int .i64 0,.int .i64 kd,.int .i64 0,.string ⟨#[]⟩,.string ⟨#[]⟩,.int .i64 0,.slice va vn vc,.int .u8 0,.int .i64 0,.int .i64 0,.bool false,.bool false,.bool false,.bool false])->(w2.alloc ob).grownBy w3 (Value.slice (some ⟨g1,0,none⟩) (j+1) cap1).ownBlock->(g1=g2\/(w2.alloc ob).heap.size<=g2)->POwn D wc.heap.size (A1++[(zd6 (zk7 nn M0),.slice va vn vc)]) (.slice (some ⟨g2,0,none⟩) (j+1+1) cap2) w3/\Below wc.heap.size wc w3):=hid (λob g2 cap2 w3 h1 h2 h3=>by
     have hbX:Below w1.heap.size w1 (w2.alloc ob):=hU.out.2.alloc vw ob;have:=(hown2.out ob).2.many (rs:=[(zd6 (zk7 nn M0),.slice va vn vc)]) (g:=g2) (cap1:=cap2) (w2:=w3) (λk x hk=>by
      have hk0:k=0:=(by have:=(Qb.1 hk).1;simp at this;exact this);subst hk0;simp at hk;subst hk;have hb2:Below w2.heap.size w2 (w2.alloc ob):=(Below.refl _ _).alloc (Qc _) ob;refine hU.out.1.move (λy hy=>?_) (λy hy=>hb2.block y (by rcases hy with h|h;omega;exact h.2))
      have h8:=hb2.size;have hy2:y<w2.heap.size:=by rcases hy with h|h;omega;exact h.2
      have hy3:y≠g1:=by rcases hy with h|h;omega;omega
      refine⟨by rcases hy with h|h;exact h.1;exact hDw.out y (by omega),by omega,?_⟩
      show some y≠some g1;intro e;injection e with e;exact hy3 e) (by
       rw[fq];have e:=qp.out;subst e;exact h1) h2 (by rcases h3 with h|h;exact .inl (by rw[h];rfl);exact .inr h)
     rw[Qa,fq] at this;exact⟨this,Below.grown (hb1H.out.trans (hbX.mono qh)) h2 (by have:=hbX.size;omega) (λy hy=>by
      have:some g1=some y:=hy;injection this with this;omega)⟩)
    clear hNd;go_wp2_with (at_builtin;refine wpList_append_lies _ (by rfl) _ _ 194 (by rfl) wc.heap.size 196 i0 (.agg #[.int .i64 0,.string ⟨#[]⟩,.int .i64 0,.int .i64 0,.int .i64 0,.string ⟨#[]⟩,.string ⟨#[]⟩,.int .i64 0,.slice none 0 0,.int .u8 0,.int .i64 0,.int .i64 0,.bool false,.bool false,.bool false,.bool false]) 16 144 underlying194 hi' hi0 hi1 hi2 (by rfl) (by omega) (.slice (some ⟨g1,0,none⟩) (j+1) cap1) (j+1) (za9 A1) (by rfl) (hown2.out _).1 ⟨w2.heap.size,0,none⟩ 1 1 [.int .i64 1,.string ⟨#[]⟩,.int .i64 0,.int .i64 kd,.int .i64 0,.string ⟨#[]⟩,.string ⟨#[]⟩,.int .i64 0,.slice va vn vc,.int .u8 0,.int .i64 0,.int .i64 0,.bool false,.bool false,.bool false,.bool false] (by rfl) (by rfl) hnew2.out pz.out (by omega) (by unfold maxLen;omega) (by omega) (by simp;omega) (w2.heap.size+1) (by simp) ?_)
    intro g2 cap2 w3 hown3 hgrow3 zq hlt3;obtain⟨hP2,hb3⟩:=hO2.out _ g2 cap2 w3 hown3 hgrow3 (by
     rcases zq with h|h
     ·exact .inl (by have:some g1=some g2:=h;injection this)
     ·exact .inr (by simp;omega))
    obtain⟨A2,hA2⟩:=Qyy (A1++[(zd6 (zk7 nn M0),.slice va vn vc)]);rw[hA2] at hP2;have mh:A2.length=j+1+1:=(by rw[<-hA2,Qa,fq];rfl);obtain⟨R3,hR3⟩:=Qyy (qs.length-i);have hg2:wc.heap.size<=g2:=(hP2.own.lt g2 rfl).1;have hw3:wc.heap.size<=w3.heap.size:=hb3.size;have ny:Hid (w3.ownsRow wc.heap.size 196 16 (.slice (some ⟨g2,0,none⟩) (j+1+1) cap2) (j+1+1) (za9 A2)):=hid (by have:=hP2.own;rw[mh] at this;exact this);have qg:Hid (∀jj u,(za9 (qs.drop i))[jj]?=some u->w3.cell? ((⟨b,o+i*16,none⟩:Addr).add jj)=some u):=hid (PRow.news (λk x hk jj u hu=>by
     rw[Qn] at hk;have h9:=jm.out w3 hb3 (i+k) x hk jj u hu;rw[show o+i*16+k*16+jj=o+(i+k)*16+jj by omega];exact h9))
    have pq:Hid (∀v∈za9 (qs.drop i),v.oneCell'=true):=hid (hone.out _ (λx hx=>List.mem_of_mem_drop hx));have hl3:(za9 (qs.drop i)).length=R3*16:=(by rw[zc5,Qf,hR3]);have hO3:Hid (∀g3 dx w4,w4.ownsRow wc.heap.size 196 16 (.slice (some ⟨g3,0,none⟩) (j+1+1+R3) dx) (j+1+1+R3) (za9 A2++za9 (qs.drop i))->w3.grownBy w4 (Value.slice (some ⟨g2,0,none⟩) (j+1+1) cap2).ownBlock->(g2=g3\/w3.heap.size<=g3)->POwn D wc.heap.size (A2++qs.drop i) (.slice (some ⟨g3,0,none⟩) (j+1+1+R3) dx) w4/\Below wc.heap.size wc w4):=hid (λg3 dx w4 h1 h2 h3=>by
     have:=hP2.many (rs:=qs.drop i) (g:=g3) (cap1:=dx) (w2:=w4) (λk x hk=>by
      rw[Qn] at hk;refine(dh.out.kids _ x hk).move (λy hy=>⟨hy.1,by omega,?_⟩) (λy hy=>hb3.block y hy.2);show some y≠some g2;intro e;injection e with e;omega) (by rw[mh,Qf,hR3];exact h1) h2 (by rcases h3 with h|h;exact .inl (by rw[h];rfl);exact .inr h)
     rw[Qa,mh,Qf,hR3] at this;exact⟨this,Below.grown hb3 h2 hw3 (λy hy=>by
      have:some g2=some y:=hy;injection this with this;omega)⟩)
    have hA2H:=hid hA2;have vg:=hid hR3;have hR31:0<R3:=(by omega);have hJl:(i:Int)<=(qs.length:Int):=(by omega);clear hown3 hgrow3 zq hP2 hb3 hA2 hO2 hnew2 pz hown2;go_wp2_with (at_builtin;refine wpList_append_lies _ (by rfl) _ _ 194 (by rfl) wc.heap.size 196 i0 (.agg #[.int .i64 0,.string ⟨#[]⟩,.int .i64 0,.int .i64 0,.int .i64 0,.string ⟨#[]⟩,.string ⟨#[]⟩,.int .i64 0,.slice none 0 0,.int .u8 0,.int .i64 0,.int .i64 0,.bool false,.bool false,.bool false,.bool false]) 16 144 underlying194 hi' hi0 hi1 hi2 (by rfl) (by omega) (.slice (some ⟨g2,0,none⟩) (j+1+1) cap2) (j+1+1) (za9 A2) (by rfl) ny.out ⟨b,o+i*16,none⟩ R3 (cap' - i) (za9 (qs.drop i)) (by rfl) hl3 qg.out pq.out (by omega) (by unfold maxLen;omega) (by omega) (by omega) w3.heap.size rfl ?_)
    intro g3 dx w4 hown5 jy zn yg;obtain⟨hP3,hb5⟩:=hO3.out g3 dx w4 hown5 jy (by
     rcases zn with h|h
     ·exact .inl (by have:some g2=some g3:=h;injection this)
     ·exact .inr (by omega))
    have hg3:wc.heap.size<=g3:=(hP3.own.lt g3 rfl).1;have hA3:A2++qs.drop i=qs.take j++q::(zd6 (zk7 nn M0),.slice va vn vc)::p::qs.drop (i+1):=by
     rw[<-hA2H.out,<-hA1H.out];exact z4e qs j i q p _ lg.out bg.out
    rw[hA3] at hP3;have htj:(qs.take j).length=j:=(by rw[Ql];omega);have hgj:(qs.take j++q::(zd6 (zk7 nn M0),.slice va vn vc)::p::qs.drop (i+1))[j]?=some q:=by
     rw[Qu (by omega),htj,Nat.sub_self];rfl
    obtain⟨hP5,d1,f1,hB5⟩:=hP3.set j 11 q (zhr q.1 nn,q.2) (.int .i64 ((jk-nn:Nat):Int)) hgj (by omega) (by rw[<-mq.out];rfl) rfl rfl;obtain⟨W5,hW5⟩:=Qzz (w4.setCell ⟨g3,j*16+11,none⟩ (.int .i64 ((jk-nn:Nat):Int)));rw[<-hW5] at hP5 hB5;have d1':w4.cell? ⟨g3,j*16+11,none⟩=some (.int .i64 (jk:Nat)):=(by rw[d1,<-mq.out];rfl);have yh:((qs.take j++q::(zd6 (zk7 nn M0),.slice va vn vc)::p::qs.drop (i+1)).set j (zhr q.1 nn,q.2))[j+2]?=some p:=by
     rw[List.getElem?_set_ne (by omega),Qu (by omega),htj,show j+2-j=2 by omega];rfl
    obtain⟨vk,e1,f2,hB6⟩:=hP5.set (j+2) 11 p (zhr p.1 nn,p.2) (.int .i64 ((jl-nn:Nat):Int)) yh (by omega) (by rw[<-ng.out];rfl) rfl rfl;obtain⟨W6,hW6⟩:=Qzz (W5.setCell ⟨g3,(j+2)*16+11,none⟩ (.int .i64 ((jl-nn:Nat):Int)));rw[<-hW6] at vk hB6;have e1':W5.cell? ⟨g3,(j+2)*16+11,none⟩=some (.int .i64 (jl:Nat)):=(by rw[e1,<-ng.out];rfl);rw[put2 _ _ j _ _ _ _ _ htj] at vk;have hAV:qs.take j++(zhr q.1 nn,q.2)::(zd6 (zk7 nn M0),.slice va vn vc)::(zhr p.1 nn,p.2)::qs.drop (i+1)=zjw qs j i q p (.slice va vn vc):=by
     unfold zjw;rw[hnnH.out,hM0H.out]
    rw[hAV] at vk;have zl:Below wc.heap.size wc W6:=hB6 wc.heap.size hg3 wc (hB5 wc.heap.size hg3 wc hb5);have htot:=zz0 qs j i q p (.slice va vn vc) (by omega) lg.out bg.out wm.out xq.out;have hNew:Hid (PLp D w l0 (zjw qs j i q p (.slice va vn vc)) (j+2) (some ⟨g3,0,none⟩) W6):=hid ⟨vk.row,λk x hk=>(vk.kids k x hk).move (λ_ hy=>⟨hy.1,hy.2.1⟩) (λ_ _=>rfl),by have:=dh.out.size;omega,zx6 (λx=>x.n<=1000000) qs j i q p _ lg.out bg.out dh.out.nums (λx n h=>h) (λnd=>by simp[zd6]),λns h=>dh.out.toL ns (.step _ _ ns (by rw[List.length_map];exact hlt) (by rw[hps.out];rw[zye] at h;exact h)),dh.out.below.trans (zl.mono dh.out.below.size)⟩;have yw:j+1+1+R3<=dx:=by
     rcases hP3.own.2 with ⟨h1,_⟩|⟨_,_,_,h1,_,_,h4,_⟩
     ·cases h1
     ·injection h1 with _ _ h3
      rw[<-hA3,Qa,mh,Qf,vg.out] at h4;omega
    have hg4l:g3<w4.heap.size:=yg;have hg5l:g3<W5.heap.size:=(by rw[hW5];simpa [World.setCell] using yg);have hW5H:=hid hW5;have hW6H:=hid hW6;have gq:=hid htot;have hwq:IntKind.i64.wrap ((jk:Int)-(nn:Int))=((jk-nn:Nat):Int):=(by rw[IntKind.wrap_i64];omega);have hwp:IntKind.i64.wrap ((jl:Int)-(nn:Int))=((jl-nn:Nat):Int):=(by rw[IntKind.wrap_i64];omega);have hJm1:(j:Int)<(j:Int)+1+1+(R3:Int):=(by omega);have hJm2:(j:Int)+2<(j:Int)+1+1+(R3:Int):=(by omega);have hJm3:(0:Int)<=(j:Int)+2:=(by omega);clear hown5 jy zn hP3 hb5 hA3 hgj hP5 d1 hW5 yh vk e1 hW6 hAV zl htot hB5 hB6 hO3 qg pq ny hone dh;go_upto_region 23 with fail
    rw[<-hW5H.out];clear d1' f1;go_upto_region 24 with fail
    rw[<-hW6H.out];clear e1' f2;go_wp2;go_roundg (qs.length-i+zc8 (zjw qs j i q p (.slice va vn vc)))
    case rel=>exact⟨j+1+1+R3,j+2,dx,some ⟨g3,0,none⟩,rfl,by go_num,by omega,yw,by have:=vg.out;have:=gq.out.2;have:=hNew.out.size;omega,hid ⟨zjw qs j i q p (.slice va vn vc),by have:=vg.out;have:=gq.out.2;omega,by have:=gq.out.2;omega,hNew.out⟩⟩
    case measure=>have:=qy.out;have:=gq.out.1;omega
  ·have hie:i=qs.length:=by omega
   have hJ1:¬(i:Int)<(qs.length:Int):=by omega
   have hNd:Hid (Calls prog 191 #[.slice a' qs.length cap'] wr λe w2=>∃v ns,e=.returned v/\RepN w2 (λx=>D x/\x<w2.heap.size) v ns/\Hid (zeq l0 0 ns)/\Below w.heap.size w w2):=hid (by
    have:=znv (λx=>D x/\x<wr.heap.size) a' cap' qs wr kg.out.row kg.out.kids (λx hx=>hx.2) (by omega) (by have:=kg.out.size;omega);refine this.mono ?_;rintro e w2⟨v,rfl,hr,hb⟩;have hbs:=hb.size;refine⟨v,_,rfl,hr.move (λy hy=>by rcases hy with h|h;exact⟨h.1,by omega⟩;exact⟨hDH.out y (by omega),h.2⟩) (λ_ _=>rfl),hid (kg.out.toL _ (.done _ _ (by rw[List.length_map];omega))),kg.out.below.trans (hb.mono hwsz)⟩)
   clear hie;go_wp2_with (fail);refine hNd.out.mono ?_;rintro e w2⟨v,ns,rfl,hr,hto,hb⟩;have hrH:=hid hr;have hbH:=hid hb;clear hr hb;go_wp2;go_ret;exact⟨v,ns,rfl,hrH.out,hto,hbH.out⟩
end Go.Proofs.YtlojgpkajkedeaaGreatDoor
