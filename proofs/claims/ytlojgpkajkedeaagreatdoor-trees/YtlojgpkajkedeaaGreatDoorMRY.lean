import Derived.Test.YtlojgpkajkedeaaGreatDoorMRW
namespace Go.Proofs.YtlojgpkajkedeaaGreatDoor
open Go.RowKit
def runR (l:List UInt8) (p:Nat):RPt:=⟨2,[],zpp,(l[p]?).getD 0,S.same (l.drop p),S.same (l.drop p),S.zby l p (S.same (l.drop p)),S.zbe l p (S.same (l.drop p)),false,false⟩
set_option maxRecDepth 100000 in
set_option maxHeartbeats 8000000 in
theorem zxj (s:ByteArray) (p:Nat) (w:World) (hs:s.size≤1000000) (hp:p<s.size) (hc:s[p]=42∨s[p]=95) :
  Calls Tryz.prog 138 #[.string s,.int .i64 (p:Nat)] w fun e w'=>e = .returned (znw (runR s.data.toList p) (.slice none 0 0))∧Below w.heap.size w w':=by
 obtain ⟨W0,hW0,hb0,hs0,hx0⟩:=zv1 w
 obtain ⟨c,hcd⟩:∃ c,s[p]=c:=⟨_,rfl⟩
 have hg:=S.zaf s p hp
 rw[hcd] at hg hc
 obtain ⟨n,hn⟩:∃ n,S.cnt c (s.data.toList.drop p)=n:=⟨_,rfl⟩
 have hdr:s.data.toList.drop p=c::s.data.toList.drop (p+1):=by
  obtain ⟨hl',hx'⟩:=List.getElem?_eq_some_iff.1 hg
  rw[List.drop_eq_getElem_cons hl',hx']
 have hsame:S.same (s.data.toList.drop p)=n:=by rw[← hn,hdr];rfl
 have hnl:p+n≤s.size:=by rw[← hn];have:=S.zd0 c (s.data.toList.drop p);rw[List.length_drop,S.length_data] at this;omega
 obtain ⟨a,ha⟩:∃ a,S.side s.data.toList ((p:Int)-1)=a:=⟨_,rfl⟩
 obtain ⟨b,hb⟩:∃ b,S.side s.data.toList ((p+n:Nat):Int)=b:=⟨_,rfl⟩
 have ha3:a=0∨a=1∨a=2:=by rw[← ha];exact S.zh5 _ _
 have hb3:b=0∨b=1∨b=2:=by rw[← hb];exact S.zh5 _ _
 obtain ⟨r,hr⟩:∃ r,S.leans b a=r:=⟨_,rfl⟩
 obtain ⟨l,hl⟩:∃ l,S.leans a b=l:=⟨_,rfl⟩
 have hM:Hid (Calls Tryz.prog 126 #[.string s,.int .i64 (p:Nat),.int .u8 (c.toNat:Int)] W0 fun e w'=>e = .returned (.int .i64 (n:Nat))∧W0=w'):=hid (by
  have:=zdi s p c W0 hs (by omega)
  rw[hn] at this
  exact this.mono (fun e w' ⟨h1,h2⟩=>⟨h1,h2.symm⟩))
 have hA:Hid (Calls Tryz.prog 188 #[.string s,.int .i64 ((p:Int)-1)] W0 fun e w'=>e = .returned (.int .i64 a)∧W0=w'):=hid (by
  have:=zkn s ((p:Int)-1) W0 (by omega) (by omega)
  rw[ha] at this;exact this)
 have hB:Hid (Calls Tryz.prog 188 #[.string s,.int .i64 ((p+n:Nat):Int)] W0 fun e w'=>e = .returned (.int .i64 b)∧W0=w'):=hid (by
  have:=zkn s ((p+n:Nat):Int) W0 (by omega) (by omega)
  rw[hb] at this;exact this)
 have hrun:Hid (runR s.data.toList p=if c=42 then ⟨2,[],zpp,c,n,n,r,l,false,false⟩ else ⟨2,[],zpp,c,n,n,r && (!l || decide (a=1)),l && (!r || decide (b=1)),false,false⟩):=hid (by
  unfold runR S.zby S.zbe
  rw[hsame,hg,ha,hb,hr,hl]
  by_cases e:c=42
  ·subst e;simp
  ·rw[if_neg e,if_neg (by simpa using e),if_neg (by simpa using e)];rfl)
 have hJ:(p:Int)<(s.size:Int):=by omega
 have hw1:IntKind.i64.wrap ((p:Int)-1)=(p:Int)-1:=by rw[IntKind.wrap_i64];omega
 have hw2:IntKind.i64.wrap ((p:Int)+(n:Int))=((p+n:Nat):Int):=by rw[IntKind.wrap_i64];omega
 have hlt:w.heap.size<W0.heap.size:=by omega
 have hx0H:=hid hx0
 have hb0H:=hid hb0
 have hW0H:=hid hW0
 have hs0H:=hid hs0
 have haH:=hid ha
 have hrH:=hid hr
 have hlH:=hid hl
 clear hW0 hb0 hs0 hx0 hg hn hdr hsame ha hb hr hl
 go_enter Tryz.func138,Tryz.ntmps138
 go_upto_region 1 with fail
 rw[← hW0H.out]
 go_wp2_with fail
 refine hM.out.mono ?_
 rintro e w' ⟨rfl,rfl⟩
 go_wp2_with fail
 refine hA.out.mono ?_
 rintro e w' ⟨rfl,rfl⟩
 go_wp2_with fail
 refine hB.out.mono ?_
 rintro e w' ⟨rfl,rfl⟩
 go_upto_region 4 with fail
 go_cut [8] (fun s8 wx=>s8 = .bool r∧W0=wx)
 case first=>
  rcases ha3 with rfl|rfl|rfl <;> rcases hb3 with rfl|rfl|rfl
  all_goals (
   go_wp2
   go_meet
   exact ⟨by rw[← hrH.out];rfl,rfl⟩)
 case rest=>
 obtain ⟨rfl,rfl⟩:=hcut
 go_upto_region 5 with fail
 go_cut [9] (fun s9 wx=>s9 = .bool l∧W0=wx)
 case first=>
  rcases ha3 with rfl|rfl|rfl <;> rcases hb3 with rfl|rfl|rfl
  all_goals (
   go_wp2
   go_meet
   exact ⟨by rw[← hlH.out];rfl,rfl⟩)
 case rest=>
 obtain ⟨rfl,rfl⟩:=hcut
 obtain ⟨W1,hW1⟩:∃ W1,W1=W0.alloc (.cells #[.int .i64 2,.string ⟨#[]⟩,.int .i64 0,.int .i64 0,.int .i64 0,.string ⟨#[]⟩,.string ⟨#[]⟩,.int .i64 0,.slice none 0 0,.int .u8 (c.toNat:Int),.int .i64 (n:Nat),.int .i64 (n:Nat),.bool r,.bool l,.bool false,.bool false] 196):=⟨_,rfl⟩
 have hb1:Below W0.heap.size W0 W1:=by rw[hW1];exact (Below.refl _ _).alloc (Nat.le_refl _) _
 have hx1:W1.heap[W0.heap.size]?=some (.cells #[.int .i64 2,.string ⟨#[]⟩,.int .i64 0,.int .i64 0,.int .i64 0,.string ⟨#[]⟩,.string ⟨#[]⟩,.int .i64 0,.slice none 0 0,.int .u8 (c.toNat:Int),.int .i64 (n:Nat),.int .i64 (n:Nat),.bool r,.bool l,.bool false,.bool false] 196 (0,0)):=by rw[hW1];exact za1 _ _
 have hs1:W1.heap.size=W0.heap.size+1:=by rw[hW1];simp
 have hW1H:=hid hW1
 obtain ⟨rp,hrp⟩:∃ rp:Bool,(if c=42 then r else (r && (!l || decide (a=1))))=rp:=⟨_,rfl⟩
 obtain ⟨lp,hlp⟩:∃ lp:Bool,(if c=42 then l else (l && (!r || decide (b=1))))=lp:=⟨_,rfl⟩
 have hrun2:Hid (runR s.data.toList p=⟨2,[],zpp,c,n,n,rp,lp,false,false⟩):=hid (by
  rw[hrun.out,← hrp,← hlp]
  by_cases e:c=42
  ·rw[if_pos e,if_pos e,if_pos e]
  ·rw[if_neg e,if_neg e,if_neg e])
 have hrpH:=hid hrp
 have hlpH:=hid hlp
 have hl1:W0.heap.size<W1.heap.size:=by omega
 have d12:W1.cell? ⟨W0.heap.size,12,none⟩=some (.bool r):=za0 hx1 12 _ rfl
 have d13:W1.cell? ⟨W0.heap.size,13,none⟩=some (.bool l):=za0 hx1 13 _ rfl
 have g1:=za7 hx1
 have hx1H:=hid hx1
 have hb1H:=hid hb1
 clear hW1 hb1 hx1 hs1 hrp hlp hrun hrH hlH haH hM hA hB
 go_upto_region 7 with fail
 rw[← hW1H.out]
 go_upto_if 57 with fail
 go_cut [11] (fun _ wx=>Hid (wx.heap[W0.heap.size]?=some (.cells #[.int .i64 2,.string ⟨#[]⟩,.int .i64 0,.int .i64 0,.int .i64 0,.string ⟨#[]⟩,.string ⟨#[]⟩,.int .i64 0,.slice none 0 0,.int .u8 (c.toNat:Int),.int .i64 (n:Nat),.int .i64 (n:Nat),.bool rp,.bool lp,.bool false,.bool false] 196 (0,0))∧Below W0.heap.size W0 wx))
 case first=>
  rcases hc with hc|hc
  ·have er:Hid (rp=r∧lp=l):=hid ⟨by rw[← hrpH.out,if_pos hc],by rw[← hlpH.out,if_pos hc]⟩
   have e9:((c.toNat:Int) == 95)=false:=by rw[hc];rfl
   clear hc
   go_wp2
   go_meet
   exact hid ⟨by rw[er.out.1,er.out.2];exact hx1H.out,hb1H.out⟩
  ·obtain ⟨ea,hea⟩:∃ ea,decide (a=1)=ea:=⟨_,rfl⟩
   obtain ⟨eb,heb⟩:∃ eb,decide (b=1)=eb:=⟨_,rfl⟩
   have ia:((a:Int) == 1)=ea:=by rw[← hea,Bool.eq_iff_iff,beq_iff_eq,decide_eq_true_iff]
   have ib:((b:Int) == 1)=eb:=by rw[← heb,Bool.eq_iff_iff,beq_iff_eq,decide_eq_true_iff]
   have er:Hid (rp=(r && (!l || ea))∧lp=(l && (!r || eb))):=hid ⟨by rw[← hrpH.out,if_neg (by rw[hc];decide),hea],by rw[← hlpH.out,if_neg (by rw[hc];decide),heb]⟩
   have e9:((c.toNat:Int) == 95)=true:=by rw[hc];rfl
   clear hc
   have hst:Hid (∀ u1 u2,((W1.setCell ⟨W0.heap.size,12,none⟩ (.bool u1)).setCell ⟨W0.heap.size,13,none⟩ (.bool u2)).heap[W0.heap.size]?=some (.cells #[.int .i64 2,.string ⟨#[]⟩,.int .i64 0,.int .i64 0,.int .i64 0,.string ⟨#[]⟩,.string ⟨#[]⟩,.int .i64 0,.slice none 0 0,.int .u8 (c.toNat:Int),.int .i64 (n:Nat),.int .i64 (n:Nat),.bool u1,.bool u2,.bool false,.bool false] 196 (0,0))∧Below W0.heap.size W0 ((W1.setCell ⟨W0.heap.size,12,none⟩ (.bool u1)).setCell ⟨W0.heap.size,13,none⟩ (.bool u2))):=hid (fun u1 u2=>⟨za3 (cs:=[.int .i64 2,.string ⟨#[]⟩,.int .i64 0,.int .i64 0,.int .i64 0,.string ⟨#[]⟩,.string ⟨#[]⟩,.int .i64 0,.slice none 0 0,.int .u8 (c.toNat:Int),.int .i64 (n:Nat),.int .i64 (n:Nat),.bool u1,.bool l,.bool false,.bool false]) (za3 (cs:=[.int .i64 2,.string ⟨#[]⟩,.int .i64 0,.int .i64 0,.int .i64 0,.string ⟨#[]⟩,.string ⟨#[]⟩,.int .i64 0,.slice none 0 0,.int .u8 (c.toNat:Int),.int .i64 (n:Nat),.int .i64 (n:Nat),.bool r,.bool l,.bool false,.bool false]) hx1H.out 12 (.bool u1)) 13 (.bool u2),(hb1H.out.setCell (p:=⟨W0.heap.size,12,none⟩) (Nat.le_refl _) _).setCell (p:=⟨W0.heap.size,13,none⟩) (Nat.le_refl _) _⟩)
   clear hea heb ha3 hb3
   cases r <;> cases l
   all_goals (
    go_wp2
    go_meet
    refine hid ?_
    rw[er.out.1,er.out.2]
    exact hst.out _ _)
 case rest=>
 have hx2:=hcut.out.1
 have hb2:=hcut.out.2
 have hw2:w.heap.size<W0.heap.size:=hlt
 have hxr:=(hb2.block w.heap.size hw2).trans hx0H.out
 have r0:=za0 hxr 0 _ rfl
 have r1:=za0 hxr 1 _ rfl
 have r2:=za0 hxr 2 _ rfl
 have r3:=za0 hxr 3 _ rfl
 have r4:=za0 hxr 4 _ rfl
 have r5:=za0 hxr 5 _ rfl
 have r6:=za0 hxr 6 _ rfl
 have r7:=za0 hxr 7 _ rfl
 have r8:=za0 hxr 8 _ rfl
 have r9:=za0 hxr 9 _ rfl
 have r10:=za0 hxr 10 _ rfl
 have r11:=za0 hxr 11 _ rfl
 have r12:=za0 hxr 12 _ rfl
 have r13:=za0 hxr 13 _ rfl
 have r14:=za0 hxr 14 _ rfl
 have r15:=za0 hxr 15 _ rfl
 have q0:=za0 hx2 0 _ rfl
 have q1:=za0 hx2 1 _ rfl
 have q2:=za0 hx2 2 _ rfl
 have q3:=za0 hx2 3 _ rfl
 have q4:=za0 hx2 4 _ rfl
 have q5:=za0 hx2 5 _ rfl
 have q6:=za0 hx2 6 _ rfl
 have q7:=za0 hx2 7 _ rfl
 have q8:=za0 hx2 8 _ rfl
 have q9:=za0 hx2 9 _ rfl
 have q10:=za0 hx2 10 _ rfl
 have q11:=za0 hx2 11 _ rfl
 have q12:=za0 hx2 12 _ rfl
 have q13:=za0 hx2 13 _ rfl
 have q14:=za0 hx2 14 _ rfl
 have q15:=za0 hx2 15 _ rfl
 have gr:=za7 hxr
 have hz:=hid (z0p hxr (.int .i64 2) (.string ⟨#[]⟩) (.int .i64 0) (.int .i64 0) (.int .i64 0) (.string ⟨#[]⟩) (.string ⟨#[]⟩) (.int .i64 0) (.slice none 0 0) (.int .u8 (c.toNat:Int)) (.int .i64 (n:Nat)) (.int .i64 (n:Nat)) (.bool rp) (.bool lp) (.bool false) (.bool false))
 have hbz:=hid (zl3 (N:=w.heap.size) (hb0H.out.trans (hb2.mono (Nat.le_of_lt hw2))) (Nat.le_refl _) (.int .i64 2) (.string ⟨#[]⟩) (.int .i64 0) (.int .i64 0) (.int .i64 0) (.string ⟨#[]⟩) (.string ⟨#[]⟩) (.int .i64 0) (.slice none 0 0) (.int .u8 (c.toNat:Int)) (.int .i64 (n:Nat)) (.int .i64 (n:Nat)) (.bool rp) (.bool lp) (.bool false) (.bool false))
 have hlc:w.heap.size<wc.heap.size:=Nat.lt_of_lt_of_le hw2 hb2.size
 have hlc2:W0.heap.size<wc.heap.size:=(Array.getElem?_eq_some_iff.1 hx2).1
 have hne:¬ W0.heap.size=w.heap.size:=by omega
 clear hx2 hb2 hxr d12 d13 g1 hcut
 go_wp2
 refine bodyPost_ret (v:=.agg #[.int .i64 2,.string ⟨#[]⟩,.int .i64 0,.int .i64 0,.int .i64 0,.string ⟨#[]⟩,.string ⟨#[]⟩,.int .i64 0,.slice none 0 0,.int .u8 (c.toNat:Int),.int .i64 (n:Nat),.int .i64 (n:Nat),.bool rp,.bool lp,.bool false,.bool false]) (by have z0:=za0 hz.out 0 _ rfl;have z1:=za0 hz.out 1 _ rfl;have z2:=za0 hz.out 2 _ rfl;have z3:=za0 hz.out 3 _ rfl;have z4:=za0 hz.out 4 _ rfl;have z5:=za0 hz.out 5 _ rfl;have z6:=za0 hz.out 6 _ rfl;have z7:=za0 hz.out 7 _ rfl;have z8:=za0 hz.out 8 _ rfl;have z9:=za0 hz.out 9 _ rfl;have z10:=za0 hz.out 10 _ rfl;have z11:=za0 hz.out 11 _ rfl;have z12:=za0 hz.out 12 _ rfl;have z13:=za0 hz.out 13 _ rfl;have z14:=za0 hz.out 14 _ rfl;have z15:=za0 hz.out 15 _ rfl;simp[results,Tryz.results138,go_sem,z0,z1,z2,z3,z4,z5,z6,z7,z8,z9,z10,z11,z12,z13,z14,z15]) rfl ?_
 exact ⟨by rw[hrun2.out];rfl,hbz.out⟩
end Go.Proofs.YtlojgpkajkedeaaGreatDoor
