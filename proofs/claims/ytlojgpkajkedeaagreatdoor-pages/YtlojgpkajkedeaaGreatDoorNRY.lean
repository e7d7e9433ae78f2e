import Derived.Test.YtlojgpkajkedeaaGreatDoorNRW
set_option maxHeartbeats 16000000
set_option maxRecDepth 100000
namespace Go.Proofs.YtlojgpkajkedeaaGreatDoor
open Go.RowKit Go.Proofs.Tryz
def runR (l:List UInt8)(p:Nat):RPt:=⟨2,[],zqu,(l[p]?).getD 0,S.same (l.drop p),S.same (l.drop p),S.zc0 l p (S.same (l.drop p)),S.zbg l p (S.same (l.drop p)),false,false⟩
theorem zzn (s:ByteArray)(p:Nat)(w:World)(hs:s.size<=1000000)(hp:p<s.size)(hc:s[p]=42\/s[p]=95):Calls prog 138 #[.string s,.int .i64 (p:Nat)] w λe w'=>e=.returned (zow (runR s.data.toList p) (.slice none 0 0))/\Below w.heap.size w w':=by
 obtain⟨W0,hW0,hb0,hs0,hx0⟩:=zxu w;obtain⟨c,hcd⟩:=Qyy (s[p]);have hg:=S.zad s p hp;rw[hcd] at hg hc;obtain⟨n,hn⟩:=Qyy (S.cnt c (s.data.toList.drop p));have hdr:s.data.toList.drop p=c::s.data.toList.drop (p+1):=by
  obtain⟨hl',hx'⟩:=Qb.1 hg;rw[Qm hl',hx']
 have hsame:S.same (s.data.toList.drop p)=n:=by rw[<-hn,hdr];rfl
 have hnl:p+n<=s.size:=by rw[<-hn];have:=S.zd3 c (s.data.toList.drop p);rw[Qf,S.lda] at this;omega
 obtain⟨a,ha⟩:=Qyy (S.side s.data.toList ((p:Int)-1));obtain⟨b,hb⟩:=Qyy (S.side s.data.toList ((p+n:Nat):Int));have jl:a=0\/a=1\/a=2:=by rw[<-ha];exact S.zhg _ _
 have hb3:b=0\/b=1\/b=2:=by rw[<-hb];exact S.zhg _ _
 obtain⟨r,hr⟩:=Qyy (S.leans b a);obtain⟨l,hl⟩:=Qyy (S.leans a b);have hM:Hid (Calls prog 126 #[.string s,.int .i64 (p:Nat),.int .u8 (c.toNat:Int)] W0 λe w'=>e=.returned (.int .i64 (n:Nat))/\W0=w'):=hid (by
  have:=zdl s p c W0 hs (by omega);rw[hn] at this;exact this.mono (λe w' ⟨h1,h2⟩=>⟨h1,h2.symm⟩))
 have hA:Hid (Calls prog 188 #[.string s,.int .i64 ((p:Int)-1)] W0 λe w'=>e=.returned (.int .i64 a)/\W0=w'):=hid (by
  have:=zli s ((p:Int)-1) W0 (by omega) (by omega);rw[ha] at this;exact this)
 have hB:Hid (Calls prog 188 #[.string s,.int .i64 ((p+n:Nat):Int)] W0 λe w'=>e=.returned (.int .i64 b)/\W0=w'):=hid (by
  have:=zli s ((p+n:Nat):Int) W0 (by omega) (by omega);rw[hb] at this;exact this)
 have hrun:Hid (runR s.data.toList p=if c=42 then ⟨2,[],zqu,c,n,n,r,l,false,false⟩ else ⟨2,[],zqu,c,n,n,r&&(!l||decide (a=1)),l&&(!r||decide (b=1)),false,false⟩):=hid (by
  unfold runR S.zc0 S.zbg;rw[hsame,hg,ha,hb,hr,hl];by_cases e:c=42
  ·subst e;simp
  ·rw[if_neg e,if_neg (by simpa using e),if_neg (by simpa using e)];rfl)
 have hJ:(p:Int)<(s.size:Int):=by omega
 have hw1:IntKind.i64.wrap ((p:Int)-1)=(p:Int)-1:=by rw[IntKind.wrap_i64];omega
 have hw2:IntKind.i64.wrap ((p:Int)+(n:Int))=((p+n:Nat):Int):=by rw[IntKind.wrap_i64];omega
 have hlt:w.heap.size<W0.heap.size:=by omega
 have gy:=hid hx0;have jk:=hid hb0;have jq:=hid hW0;have mq:=hid hs0;have ny:=hid ha;have jw:=hid hr;have jy:=hid hl;clear hW0 hb0 hs0 hx0 hg hn hdr hsame ha hb hr hl;go_enter func138,ntmps138;go_upto_region 1 with fail
 rw[<-jq.out];go_wp2_with fail
 refine hM.out.mono ?_;rintro e w'⟨rfl,rfl⟩;go_wp2_with fail
 refine hA.out.mono ?_;rintro e w'⟨rfl,rfl⟩;go_wp2_with fail
 refine hB.out.mono ?_;rintro e w'⟨rfl,rfl⟩;go_upto_region 4 with fail
 go_cut [8] (λs8 wx=>s8=.bool r/\W0=wx)
 case first=>
  rcases jl with rfl|rfl|rfl<;>rcases hb3 with rfl|rfl|rfl
  all_goals (
   go_wp2;go_meet;exact⟨by rw[<-jw.out];rfl,rfl⟩)
 case rest=>
 obtain⟨rfl,rfl⟩:=hcut;go_upto_region 5 with fail
 go_cut [9] (λs9 wx=>s9=.bool l/\W0=wx)
 case first=>
  rcases jl with rfl|rfl|rfl<;>rcases hb3 with rfl|rfl|rfl
  all_goals (
   go_wp2;go_meet;exact⟨by rw[<-jy.out];rfl,rfl⟩)
 case rest=>
 obtain⟨rfl,rfl⟩:=hcut;obtain⟨W1,hW1⟩:=Qzz (W0.alloc (.cells #[.int .i64 2,.string ⟨#[]⟩,.int .i64 0,.int .i64 0,.int .i64 0,.string ⟨#[]⟩,.string ⟨#[]⟩,.int .i64 0,.slice none 0 0,.int .u8 (c.toNat:Int),.int .i64 (n:Nat),.int .i64 (n:Nat),.bool r,.bool l,.bool false,.bool false] 196));have hb1:Below W0.heap.size W0 W1:=by rw[hW1];exact(Below.refl _ _).alloc (Qc _) _
 have hx1:W1.heap[W0.heap.size]?=some (.cells #[.int .i64 2,.string ⟨#[]⟩,.int .i64 0,.int .i64 0,.int .i64 0,.string ⟨#[]⟩,.string ⟨#[]⟩,.int .i64 0,.slice none 0 0,.int .u8 (c.toNat:Int),.int .i64 (n:Nat),.int .i64 (n:Nat),.bool r,.bool l,.bool false,.bool false] 196 (0,0)):=by rw[hW1];exact za1 _ _
 have hs1:W1.heap.size=W0.heap.size+1:=by rw[hW1];simp
 have jm:=hid hW1;obtain⟨rp,jd⟩:∃rp:Bool,(if c=42 then r else (r&&(!l||decide (a=1))))=rp:=⟨_,rfl⟩
 obtain⟨lp,hlp⟩:∃lp:Bool,(if c=42 then l else (l&&(!r||decide (b=1))))=lp:=⟨_,rfl⟩
 have dw:Hid (runR s.data.toList p=⟨2,[],zqu,c,n,n,rp,lp,false,false⟩):=hid (by
  rw[hrun.out,<-jd,<-hlp];by_cases e:c=42
  ·rw[if_pos e,if_pos e,if_pos e]
  ·rw[if_neg e,if_neg e,if_neg e])
 have dx:=hid jd;have fq:=hid hlp;have hl1:W0.heap.size<W1.heap.size:=by omega
 have pz:W1.cell? ⟨W0.heap.size,12,none⟩=some (.bool r):=za0 hx1 12 _ rfl;have pq:W1.cell? ⟨W0.heap.size,13,none⟩=some (.bool l):=za0 hx1 13 _ rfl;have g1:=za7 hx1;have dh:=hid hx1;have gq:=hid hb1;clear hW1 hb1 hx1 hs1 jd hlp hrun jw jy ny hM hA hB;go_upto_region 7 with fail
 rw[<-jm.out];go_upto_if 57 with fail
 go_cut [11] (λ_ wx=>Hid (wx.heap[W0.heap.size]?=some (.cells #[.int .i64 2,.string ⟨#[]⟩,.int .i64 0,.int .i64 0,.int .i64 0,.string ⟨#[]⟩,.string ⟨#[]⟩,.int .i64 0,.slice none 0 0,.int .u8 (c.toNat:Int),.int .i64 (n:Nat),.int .i64 (n:Nat),.bool rp,.bool lp,.bool false,.bool false] 196 (0,0))/\Below W0.heap.size W0 wx))
 case first=>
  rcases hc with hc|hc
  ·have er:Hid (rp=r/\lp=l):=hid ⟨by rw[<-dx.out,if_pos hc],by rw[<-fq.out,if_pos hc]⟩;have e9:((c.toNat:Int) == 95)=false:=by rw[hc];rfl
   clear hc;go_wp2;go_meet;exact hid ⟨by rw[er.out.1,er.out.2];exact dh.out,gq.out⟩
  ·obtain⟨ea,jh⟩:=Qyy (decide (a=1));obtain⟨eb,jg⟩:=Qyy (decide (b=1));have ia:((a:Int) == 1)=ea:=by rw[<-jh,Bool.eq_iff_iff,beq_iff_eq,decide_eq_true_iff]
   have ib:((b:Int) == 1)=eb:=by rw[<-jg,Bool.eq_iff_iff,beq_iff_eq,decide_eq_true_iff]
   have er:Hid (rp=(r&&(!l||ea))/\lp=(l&&(!r||eb))):=hid ⟨by rw[<-dx.out,if_neg (by rw[hc];decide),jh],by rw[<-fq.out,if_neg (by rw[hc];decide),jg]⟩;have e9:((c.toNat:Int) == 95)=true:=by rw[hc];rfl
   clear hc;have hst:Hid (∀u1 u2,((W1.setCell ⟨W0.heap.size,12,none⟩ (.bool u1)).setCell ⟨W0.heap.size,13,none⟩ (.bool u2)).heap[W0.heap.size]?=some (.cells #[.int .i64 2,.string ⟨#[]⟩,.int .i64 0,.int .i64 0,.int .i64 0,.string ⟨#[]⟩,.string ⟨#[]⟩,.int .i64 0,.slice none 0 0,.int .u8 (c.toNat:Int),.int .i64 (n:Nat),.int .i64 (n:Nat),.bool u1,.bool u2,.bool false,.bool false] 196 (0,0))/\Below W0.heap.size W0 ((W1.setCell ⟨W0.heap.size,12,none⟩ (.bool u1)).setCell ⟨W0.heap.size,13,none⟩ (.bool u2))):=hid (λu1 u2=>⟨za3 (cs:=[.int .i64 2,.string ⟨#[]⟩,.int .i64 0,.int .i64 0,.int .i64 0,.string ⟨#[]⟩,.string ⟨#[]⟩,.int .i64 0,.slice none 0 0,.int .u8 (c.toNat:Int),.int .i64 (n:Nat),.int .i64 (n:Nat),.bool u1,.bool l,.bool false,.bool false]) (za3 (cs:=[.int .i64 2,.string ⟨#[]⟩,.int .i64 0,.int .i64 0,.int .i64 0,.string ⟨#[]⟩,.string ⟨#[]⟩,.int .i64 0,.slice none 0 0,.int .u8 (c.toNat:Int),.int .i64 (n:Nat),.int .i64 (n:Nat),.bool r,.bool l,.bool false,.bool false]) dh.out 12 (.bool u1)) 13 (.bool u2),(gq.out.setCell (p:=⟨W0.heap.size,12,none⟩) (Qc _) _).setCell (p:=⟨W0.heap.size,13,none⟩) (Qc _) _⟩);clear jh jg jl hb3;cases r<;>cases l
   all_goals (
    go_wp2;go_meet;refine hid ?_;rw[er.out.1,er.out.2];exact hst.out _ _)
 case rest=>
 have hx2:=hcut.out.1;have hb2:=hcut.out.2;have hw2:w.heap.size<W0.heap.size:=hlt;have bg:=(hb2.block w.heap.size hw2).trans gy.out;have r0:=za0 bg 0 _ rfl;have r1:=za0 bg 1 _ rfl;have r2:=za0 bg 2 _ rfl;have r3:=za0 bg 3 _ rfl;have r4:=za0 bg 4 _ rfl;have r5:=za0 bg 5 _ rfl;have r6:=za0 bg 6 _ rfl;have r7:=za0 bg 7 _ rfl;have r8:=za0 bg 8 _ rfl;have r9:=za0 bg 9 _ rfl;have qp:=za0 bg 10 _ rfl;have qm:=za0 bg 11 _ rfl;have qj:=za0 bg 12 _ rfl;have qh:=za0 bg 13 _ rfl;have qg:=za0 bg 14 _ rfl;have qb:=za0 bg 15 _ rfl;have q0:=za0 hx2 0 _ rfl;have q1:=za0 hx2 1 _ rfl;have q2:=za0 hx2 2 _ rfl;have q3:=za0 hx2 3 _ rfl;have q4:=za0 hx2 4 _ rfl;have q5:=za0 hx2 5 _ rfl;have q6:=za0 hx2 6 _ rfl;have q7:=za0 hx2 7 _ rfl;have q8:=za0 hx2 8 _ rfl;have q9:=za0 hx2 9 _ rfl;have vk:=za0 hx2 10 _ rfl;have vg:=za0 hx2 11 _ rfl;have tq:=za0 hx2 12 _ rfl;have qz:=za0 hx2 13 _ rfl;have qy:=za0 hx2 14 _ rfl;have qx:=za0 hx2 15 _ rfl;have gr:=za7 bg;have hz:=hid (z4u bg (.int .i64 2) (.string ⟨#[]⟩) (.int .i64 0) (.int .i64 0) (.int .i64 0) (.string ⟨#[]⟩) (.string ⟨#[]⟩) (.int .i64 0) (.slice none 0 0) (.int .u8 (c.toNat:Int)) (.int .i64 (n:Nat)) (.int .i64 (n:Nat)) (.bool rp) (.bool lp) (.bool false) (.bool false));have hbz:=hid (zme (N:=w.heap.size) (jk.out.trans (hb2.mono (Nat.le_of_lt hw2))) (Qc _) (.int .i64 2) (.string ⟨#[]⟩) (.int .i64 0) (.int .i64 0) (.int .i64 0) (.string ⟨#[]⟩) (.string ⟨#[]⟩) (.int .i64 0) (.slice none 0 0) (.int .u8 (c.toNat:Int)) (.int .i64 (n:Nat)) (.int .i64 (n:Nat)) (.bool rp) (.bool lp) (.bool false) (.bool false));have hlc:w.heap.size<wc.heap.size:=Qh hw2 hb2.size;have ng:W0.heap.size<wc.heap.size:=(Qq.1 hx2).1;have hne:¬W0.heap.size=w.heap.size:=by omega
 clear hx2 hb2 bg pz pq g1 hcut;go_wp2;refine bodyPost_ret (v:=.agg #[.int .i64 2,.string ⟨#[]⟩,.int .i64 0,.int .i64 0,.int .i64 0,.string ⟨#[]⟩,.string ⟨#[]⟩,.int .i64 0,.slice none 0 0,.int .u8 (c.toNat:Int),.int .i64 (n:Nat),.int .i64 (n:Nat),.bool rp,.bool lp,.bool false,.bool false]) (by have z0:=za0 hz.out 0 _ rfl;have z1:=za0 hz.out 1 _ rfl;have z2:=za0 hz.out 2 _ rfl;have z3:=za0 hz.out 3 _ rfl;have z4:=za0 hz.out 4 _ rfl;have z5:=za0 hz.out 5 _ rfl;have z6:=za0 hz.out 6 _ rfl;have z7:=za0 hz.out 7 _ rfl;have z8:=za0 hz.out 8 _ rfl;have z9:=za0 hz.out 9 _ rfl;have mh:=za0 hz.out 10 _ rfl;have lq:=za0 hz.out 11 _ rfl;have z12:=za0 hz.out 12 _ rfl;have lg:=za0 hz.out 13 _ rfl;have kr:=za0 hz.out 14 _ rfl;have kg:=za0 hz.out 15 _ rfl;simp[results,results138,go_sem,z0,z1,z2,z3,z4,z5,z6,z7,z8,z9,mh,lq,z12,lg,kr,kg]) rfl ?_;exact⟨by rw[dw.out];rfl,hbz.out⟩
end Go.Proofs.YtlojgpkajkedeaaGreatDoor
