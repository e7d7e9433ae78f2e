import Derived.Test.YtlojgpkajkedeaaGreatDoorMStr
import Derived.Test.YtlojgpkajkedeaaGreatDoorMC2
import Derived.Test.YtlojgpkajkedeaaGreatDoorMW14
import Derived.Test.YtlojgpkajkedeaaGreatDoorMW17
namespace Go.Proofs.YtlojgpkajkedeaaGreatDoor
open Go.RowKit
mutual
def zls (cont:List UInt8→Nat→List Nd) (d:Nat):S.Blk→List Nd
 | .at_ _ k n info text loose kids=>(⟨(d:Int),k,n,S.B info,textOf k (S.B text) loose⟩:Nd)::((if k=1∨k=2 then cont text (d+1) else [])++zcg cont (d+1) kids)
def zcg (cont:List UInt8→Nat→List Nd) (d:Nat):List S.Blk→List Nd
 | []=>[]
 | b::r=>zls cont d b++zcg cont d r
end
mutual
def zob (P:List UInt8→Prop) (d:Nat):S.Blk→Prop
 | .at_ _ k _ _ text _ kids=>(k=1∨k=2→P text)∧zel P (d+1) kids
def zel (P:List UInt8→Prop) (d:Nat):List S.Blk→Prop
 | []=>d≤90000
 | b::r=>zob P d b∧zel P d r
end
theorem zws (P:List UInt8→Prop) (d:Nat) (z:Int) (b:S.Blk):zob P d (b.put z)↔zob P d b:=by cases b;simp only[S.Blk.put,zob]
theorem zsl (P:List UInt8→Prop) (d:Nat) (ts:List S.Blk) (h:zel P d ts):d≤90000:=by
 induction ts with
 | nil=>simpa [zel] using h
 | cons b r ih=>simp only[zel] at h;exact ih h.2
theorem zut (P:List UInt8→Prop) (d:Nat) (ts:List S.Blk) (h:zel P d ts) (i:Nat) (t:S.Blk) (hi:ts[i]?=some t):zob P d t:=by
 induction ts generalizing i with
 | nil=>simp at hi
 | cons b r ih=>
  simp only[zel] at h
  cases i with
  | zero=>simp at hi;subst hi;exact h.1
  | succ i=>exact ih h.2 i (by simpa using hi)
theorem zjx (cont:List UInt8→Nat→List Nd) (d:Nat) (ts us:List S.Blk):zcg cont d (ts++us)=zcg cont d ts++zcg cont d us:=by
 induction ts with
 | nil=>simp[zcg]
 | cons b r ih=>simp[zcg,ih]
theorem zms (cont:List UInt8→Nat→List Nd) (d:Nat) (ts:List S.Blk) (k:Nat) (t:S.Blk) (h:ts[k]?=some t):zcg cont d (ts.take (k+1))=zcg cont d (ts.take k)++zls cont d t:=by
 rw[List.take_add_one,h,zjx];simp[zcg]
theorem zok (cont:List UInt8→Nat→List Nd) (d:Nat) (ts:List S.Blk) (k:Nat):(zcg cont d (ts.take k)).length≤(zcg cont d ts).length:=by
 conv=>rhs;rw[← List.take_append_drop k ts,zjx]
 simp
theorem zwz (cont:List UInt8→Nat→List Nd) (d:Nat) (ts:List S.Blk):ts.length≤(zcg cont d ts).length:=by
 induction ts with
 | nil=>simp
 | cons b r ih=>
  obtain ⟨z,k,n,info,text,loose,kids⟩:=b
  simp only[zcg,zls,List.length_append,List.length_cons];omega
theorem Env.z0z {B:Nat} {w w':World} (h:Env w) (h1:3<B) (h2:0<B) (hb:Below B w w'):Env w':=by
 obtain ⟨⟨ev,e1,e2⟩,⟨m,e3⟩,e4,e5⟩:=h
 have:=hb.size
 exact ⟨⟨ev,(hb.cell (p:=⟨3,0,none⟩) h1).trans e1,e2⟩,⟨m,(hb.cell (p:=⟨0,0,none⟩) h2).trans e3⟩,by omega,by omega⟩
def zt5 (c:List UInt8) (nds:Nat→List Nd):Prop:=∀ (B:Nat) (k li:Int) (la:Option Addr) (lz lc:Nat) (n:Int) (info:ByteArray) (loose:Bool) (ka:Option Addr) (kn kc:Nat) (depth:Nat) (a:Option Addr) (cp:Nat) (l:List Nd) (w:World),Env w→k=1∨k=2→B≤w.heap.size→zba B a cp l w→(l++nds depth).length≤1000000→depth≤90000 →
  Calls Tryz.prog 63 #[.slice a l.length cp,.agg #[.int .i64 k,.int .i64 li,.slice la lz lc,.int .i64 n,.string info,.string (S.B c),.bool loose,.slice ka kn kc],.int .i64 (depth:Nat)] w (Laid B (Value.slice a l.length cp).ownBlock (l++nds depth) w)
theorem zr4 (P:List UInt8→Prop) (cont:List UInt8→Nat→List Nd) (hc:∀ c,P c→zt5 c (cont c)) (B:Nat) (k li:Int) (la:Option Addr) (lz lc:Nat) (n:Int) (info:ByteArray) (text:List UInt8) (loose:Bool) (ka:Option Addr) (kn kc:Nat) (depth:Nat) (a:Option Addr) (cp:Nat) (l:List Nd) (w:World) (henv:Env w) (hP:k=1∨k=2→P text) (hB:B≤w.heap.size) (hown:zba B a cp l w) (hl:(l++(if k=1∨k=2 then cont text depth else [])).length≤1000000) (hd:depth≤90000) :
  Calls Tryz.prog 63 #[.slice a l.length cp,.agg #[.int .i64 k,.int .i64 li,.slice la lz lc,.int .i64 n,.string info,.string (S.B text),.bool loose,.slice ka kn kc],.int .i64 (depth:Nat)] w (Laid B (Value.slice a l.length cp).ownBlock (l++(if k=1∨k=2 then cont text depth else [])) w):=by
 by_cases hk:k=1∨k=2
 ·rw[if_pos hk] at hl ⊢
  exact hc text (hP hk) B k li la lz lc n info loose ka kn kc depth a cp l w henv hk hB hown hl hd
 ·rw[if_neg hk,List.append_nil]
  refine (zi3 k li la lz lc n info (S.B text) loose ka kn kc depth a l.length cp w (fun h=>hk (.inl h)) (fun h=>hk (.inr h))).mono ?_
  rintro e w' ⟨rfl,hb⟩
  exact ⟨a,cp,rfl,hown.below hb,zg8 hb _,fun g hg=>.inl hg⟩
set_option maxRecDepth 100000 in
set_option maxHeartbeats 8000000 in
theorem zk4 (P:List UInt8→Prop) (cont:List UInt8→Nat→List Nd) (hc:∀ c,P c→zt5 c (cont c)) (B:Nat) (w0:World) (henv:Env w0) (hB0:w0.heap.size≤B) (A:Nat→Prop) (hA:∀ x,A x→x<B) (v:Value) (ts:List S.Blk) (h:Rep w0 A v ts) :
  ∀ (w:World) (a:Option Addr) (cp:Nat) (l:List Nd) (d:Nat),Below B w0 w→B≤w.heap.size→zba B a cp l w→(l++zcg cont d ts).length≤1000000→zel P d ts →
   Calls Tryz.prog 44 #[.slice a l.length cp,v,.int .i64 (d:Nat)] w (Laid B (Value.slice a l.length cp).ownBlock (l++zcg cont d ts) w):=by
 induction h with
 | nil=>
  intro w a cp l d hb hB hown hl hg
  have hownH:=hid hown
  clear hown hb hl hg
  go_enter Tryz.func44,Tryz.ntmps44
  go_wp2
  refine wp_loop_rounds 1 ?_
  rw[rounds_succ]
  go_wp2
  go_ret
  refine ⟨a,cp,?_,?_,World.grownBy.refl _ _,fun g hg=>.inl (by simpa [Value.ownBlock,zcg] using hg)⟩
  ·simp[zcg]
  ·simpa [zcg] using hownH.out
 | some b o cap ts kv ha hcap hcells hk ih=>
  intro w a cp l d hb hB hown hl hg
  obtain ⟨i0,hi,hz0,hz1,hz2⟩:=info_parts Tryz.zkk
  have hbB:=hA b ha
  have hownH:=hid hown
  have hcH:=hid hcells
  have hihH:=hid ih
  have hgH:=hid hg
  have hlH:=hid hl
  have hb0H:=hid hb
  have hkH:=hid hk
  have hccH:=hid hc
  have henvH:=hid henv
  have hdle:=zsl P d ts hg
  have hlts:=hid (hown.lt)
  have htl:ts.length≤1000000:=by have:=zwz cont d ts;rw[List.length_append] at hl;omega
  clear hown hcells ih hg hl hb hk hc hA henv
  go_enter Tryz.func44,Tryz.ntmps44
  go_wp2
  go_loopw [0,8,11] (fun vl _ i wr=>∃ (k:Nat) (a':Option Addr) (cp':Nat),k≤ts.length∧i = .int .i64 k∧vl = .slice a' (l++zcg cont d (ts.take k)).length cp'∧zba B a' cp' (l++zcg cont d (ts.take k)) wr∧w.grownBy wr (Value.slice a l.length cp).ownBlock∧∀ g,(Value.slice a' (l++zcg cont d (ts.take k)).length cp').ownBlock=some g→(Value.slice a l.length cp).ownBlock=some g∨w.heap.size≤g) (fun _ _ i _=>ts.length-(intOf i).toNat)
  case atStart=>
   refine ⟨0,a,cp,Nat.zero_le _,rfl,?_,?_,World.grownBy.refl _ _,?_⟩
   ·simp[zcg]
   ·simpa [zcg] using hownH.out
   ·intro g hg;exact .inl (by simpa [Value.ownBlock,zcg] using hg)
  case round=>
   obtain ⟨k,a',cp',hk,rfl,rfl,hown,hgr,hat⟩:=hrel
   have hbw:Below B w wr:=Below.grown (Below.refl B w) hgr hB (fun q hq=>(hlts.out q hq).1)
   have hbw0:=hb0H.out.trans hbw
   have hszr:w.heap.size≤wr.heap.size:=hgr.size
   by_cases hlt:k<ts.length
   ·obtain ⟨t,ht⟩:∃ t,ts[k]?=some t:=⟨ts[k],List.getElem?_eq_getElem hlt⟩
    have hl3:=zok cont d ts (k+1)
    rw[zms cont d ts k t ht] at hl3
    have hfl:Hid (l++zcg cont d (ts.take (k+1))=(l++zcg cont d (ts.take k))++zls cont d t):=hid (by rw[zms cont d ts k t ht,List.append_assoc])
    have hl4:((l++zcg cont d (ts.take k))++zls cont d t).length≤1000000:=by have:=hlH.out;simp only[List.length_append] at this hl3 ⊢;omega
    obtain ⟨L,hL⟩:∃ L,l++zcg cont d (ts.take k)=L:=⟨_,rfl⟩
    rw[hL] at hown hat hfl hl4 ⊢
    have hLH:=hid hL
    have hgt:=zut P d ts hgH.out k t ht
    have hcc:=hcH.out k t ht
    have hkids:=hkH.out k t ht
    have hikids:=hihH.out k t ht
    obtain ⟨ka,kn,kc,hkv⟩:=hkids.form
    rw[hkv] at hcc hikids
    obtain ⟨li,kd,n,info,text,loose,kids⟩:=t
    simp only[S.Blk.line,S.Blk.kind,S.Blk.n,S.Blk.info,S.Blk.text,S.Blk.loose,S.Blk.kids] at hcc hikids
    simp only[zob] at hgt
    simp only[zls] at hl4 hfl
    obtain ⟨e0,e1,⟨la,lz,lc,e2⟩,e3,e4,e5,e6,e7⟩:=hcc
    have hcell:∀ j,wr.cell? ⟨b,o+8*k+j,none⟩=w0.cell? ⟨b,o+8*k+j,none⟩:=fun j=>hbw0.cell (p:=⟨b,o+8*k+j,none⟩) hbB
    have c0:=(hcell 0).trans e0
    have c1:=(hcell 1).trans e1
    have c2:=(hcell 2).trans e2
    have c3:=(hcell 3).trans e3
    have c4:=(hcell 4).trans e4
    have c5:=(hcell 5).trans e5
    have c6:=(hcell 6).trans e6
    have c7:=(hcell 7).trans e7
    rw[Nat.add_zero] at c0
    rw[Nat.mul_comm 8 k] at c0 c1 c2 c3 c4 c5 c6 c7
    have hd1:d+1≤90000:=zsl P (d+1) kids hgt.2
    obtain ⟨X,hX⟩:∃ X,X=Obj.cells #[.int .i64 kd,.int .i64 li,.slice la lz lc,.int .i64 n,.string (S.B info),.string (S.B text),.bool loose,.slice ka kn kc] 110:=⟨_,rfl⟩
    have hND:=hid (zuf kd li la lz lc n (S.B info) (S.B text) loose ka kn kc d (wr.alloc X))
    have hownL:=hid hown
    have hbwH:=hid hbw
    have hbw0H:=hid hbw0
    have hgrH:=hid hgr
    have hatH:=hid hat
    have hgtH:=hid hgt
    have hikH:=hid hikids
    have hXH:=hid hX
    clear e0 e1 e2 e3 e4 e5 e6 e7 hcell hkids hkv hl3 hL ht hown hbw hbw0 hgr hat hgt hikids hX
    go_wp2_with fail
    rw[← hXH.out]
    refine hND.out.mono ?_
    rintro e w1 ⟨rfl,hb1⟩
    obtain ⟨nd,hnd⟩:∃ nd:Nd,nd=⟨(d:Int),kd,n,S.B info,textOf kd (S.B text) loose⟩:=⟨_,rfl⟩
    rw[← hnd] at hl4 hfl
    have hb1w:Below wr.heap.size wr w1:=((Below.refl _ _).alloc (Nat.le_refl _) X).trans (hb1.mono (by simp))
    have hs1:wr.heap.size+1≤w1.heap.size:=by have:=hb1.size;simpa using this
    have hx1:w1.heap[wr.heap.size]?=some X:=(hb1.block wr.heap.size (by simp)).trans (za1 _ _)
    have hown1:=zba.below hownL.out hb1w
    have hown2:=hid (fun o1=>zba.alloc hown1 o1)
    have hnew:Hid (∀ j u,(five nd)[j]?=some u→(w1.alloc (.cells #[.int .i64 (d:Int),.int .i64 kd,.int .i64 n,.string (S.B info),.string (textOf kd (S.B text) loose)] 36)).cell? ((⟨w1.heap.size,0,none⟩:Addr).add j)=some u):=hid (by
     intro j u hj
     have ha:(⟨w1.heap.size,0,none⟩:Addr).add j=⟨w1.heap.size,j,none⟩:=by
      simp only[Addr.add];split
      ·rename_i h;simp <;> omega
      ·simp <;> omega
     rw[ha]
     exact za0 (za1 _ _) j u (by rw[← hj,hnd];simp[five]))
    have hone:Hid (∀ u∈five nd,u.oneCell'=true):=hid (by
     intro u hu;simp[five] at hu;rcases hu with rfl|rfl|rfl|rfl|rfl <;> rfl)
    have hLl:L.length+1≤1000000:=by simp only[List.length_append,List.length_cons] at hl4;omega
    have hltL:=hid (hownL.out.lt)
    have hlt1:=hid (hown1.lt)
    have hx1H:=hid hx1
    have hb1wH:=hid hb1w
    have hl4H:=hid hl4
    have hndH:=hid hnd
    clear hb1 hb1w hx1 hown1 hl4 hnd
    go_wp2_with (at_builtin;refine wpList_append_lies _ (by rfl) _ _ 22 (by rfl) B 36 i0 (.agg #[.int .i64 0,.int .i64 0,.int .i64 0,.string ⟨#[]⟩,.string ⟨#[]⟩]) 5 56 Tryz.underlying22 hi hz0 hz1 hz2 (by rfl) (by omega) (.slice a' L.length cp') L.length (zao L) (by rfl) (hown2.out _) ⟨w1.heap.size,0,none⟩ 1 1 (five nd) (by rfl) (by rfl) hnew.out hone.out (by omega) (by unfold maxLen;omega) (by omega) (by simp;omega) (w1.heap.size+1) (by simp) ?_)
    intro g cap1 w2 hown3 hgrow hat2 hltg
    have hsz2:∀ o1,(w1.alloc o1).heap.size=w1.heap.size+1:=by intro o1;simp
    have hs2:w1.heap.size+1≤w2.heap.size:=by have:=hgrow.size;rw[hsz2] at this;exact this
    have hx2:w2.heap[wr.heap.size]?=some X:=by
     rw[hgrow.block wr.heap.size (by rw[hsz2];omega) (fun e=>by have:=hltL.out _ e.symm;omega),Below.heap_alloc _ _ _ (by omega)]
     exact hx1H.out
    have hownN2:zba B (some ⟨g,0,none⟩) cap1 (L++[nd]) w2:=by
     unfold zba;rw[zgq,List.length_append];exact hown3
    have hg2:wr.grownBy w2 (Value.slice a' L.length cp').ownBlock:=zbs (zbs (zg8 hb1wH.out _) (World.grownBy_alloc _ _ _) (fun g h=>.inl h)) hgrow (fun g h=>.inl h)
    have hat2':(Value.slice a' L.length cp').ownBlock=some g∨wr.heap.size≤g:=hat2.imp id (fun h=>by omega)
    have hxg:wr.heap.size≠g:=by
     rintro rfl
     rcases hat2 with h|h
     ·have:=hltL.out _ h;omega
     ·omega
    have hb2:Below B w0 w2:=hbw0H.out.trans (Below.grown (Below.refl B wr) hg2 (by omega) (fun q hq=>(hltL.out q hq).1))
    have hlen1:(L++[nd]).length=L.length+1:=by simp
    have hCT:=zr4 P cont hccH.out B kd li la lz lc n (S.B info) text loose ka kn kc (d+1) (some ⟨g,0,none⟩) cap1 (L++[nd]) w2 (henvH.out.z0z (Nat.lt_of_lt_of_le henvH.out.2.2.1 hB0) (Nat.lt_of_lt_of_le henvH.out.2.2.2 hB0) hb2) hgtH.out.1 (by omega) hownN2 (by have:=hl4H.out;simp only[List.length_append,List.length_cons,List.length_nil] at this ⊢;omega) hd1
    rw[hlen1,show ((d+1:Nat):Int)=(d:Int)+1 from by omega] at hCT
    obtain ⟨L2,hL2⟩:∃ L2,(L++[nd])++(if kd=1∨kd=2 then cont text (d+1) else [])=L2:=⟨_,rfl⟩
    rw[hL2] at hCT
    have hCTH:=hid hCT
    have hfl2:Hid (L2++zcg cont (d+1) kids=l++zcg cont d (ts.take (k+1))):=hid (by rw[hfl.out,← hL2];simp[List.append_assoc])
    have hl5:Hid ((L2++zcg cont (d+1) kids).length≤1000000):=hid (by have:=hl4H.out;rw[← hL2];simp only[List.length_append,List.length_cons,List.length_nil] at this ⊢;omega)
    clear hL2
    rw[hXH.out] at hx2
    have x0:=za0 hx2 0 _ rfl
    have x1:=za0 hx2 1 _ rfl
    have x2:=za0 hx2 2 _ rfl
    have x3:=za0 hx2 3 _ rfl
    have x4:=za0 hx2 4 _ rfl
    have x5:=za0 hx2 5 _ rfl
    have x6:=za0 hx2 6 _ rfl
    have x7:=za0 hx2 7 _ rfl
    have hx2H:=hid hx2
    have hg2H:=hid hg2
    have hat2H:=hid hat2'
    have hb2H:=hid hb2
    clear hown3 hgrow hat2 hltg hx2 hg2 hat2' hb2 hownN2 hCT hsz2
    go_wp2_with fail
    refine hCTH.out.mono ?_
    rintro e w3 ⟨a3,cp3,rfl,hown3,hg3,hat3⟩
    have hs3:w2.heap.size≤w3.heap.size:=hg3.size
    have hx3:w3.heap[wr.heap.size]?=_:=(hg3.block wr.heap.size (by omega) (by simpa [Value.ownBlock] using hxg)).trans hx2H.out
    have y5:=za0 hx3 7 _ rfl
    have hg3w:wr.grownBy w3 (Value.slice a' L.length cp').ownBlock:=zbs hg2H.out hg3 (fun g' h=>by
     have:g=g':=by simpa [Value.ownBlock] using h
     subst this;exact hat2H.out)
    have hat3w:∀ g',(Value.slice a3 L2.length cp3).ownBlock=some g'→(Value.slice a' L.length cp').ownBlock=some g'∨wr.heap.size≤g':=fun g' h=>by
     rcases hat3 g' h with h|h
     ·have:g=g':=by simpa [Value.ownBlock] using h
      subst this;exact hat2H.out
     ·exact .inr (by omega)
    have hb3:Below B w0 w3:=hbw0H.out.trans (Below.grown (Below.refl B wr) hg3w (by omega) (fun q hq=>(hltL.out q hq).1))
    have hIK:=hikH.out w3 a3 cp3 L2 (d+1) hb3 (by omega) hown3 hl5.out hgtH.out.2
    rw[hfl2.out,show ((d+1:Nat):Int)=(d:Int)+1 from by omega] at hIK
    have hIKH:=hid hIK
    have hg3H:=hid hg3w
    have hat3H:=hid hat3w
    clear hown3 hg3 hat3 hx3 hg3w hat3w hb3 hIK
    go_wp2_with fail
    refine hIKH.out.mono ?_
    rintro e w4 ⟨a4,cp4,rfl,hown4,hg4,hat4⟩
    have hown4H:=hid hown4
    have hg4H:Hid (w.grownBy w4 (Value.slice a l.length cp).ownBlock):=hid (zbs hgrH.out (zbs hg3H.out hg4 hat3H.out) hatH.out)
    have hat4H:Hid (∀ g',(Value.slice a4 (l++zcg cont d (ts.take (k+1))).length cp4).ownBlock=some g'→(Value.slice a l.length cp).ownBlock=some g'∨w.heap.size≤g'):=hid (fun g' h=>by
     rcases hat4 g' h with h|h
     ·rcases hat3H.out g' h with h|h
      ·exact hatH.out g' h
      ·exact .inr (by omega)
     ·exact .inr (by omega))
    clear hown4 hg4 hat4
    go_wp2
    go_roundw
    case rel=>exact ⟨k+1,a4,cp4,by omega,by go_num,by simp,hown4H.out,hg4H.out,hat4H.out⟩
    case measure=>simp[intOf];omega
   ·have hkl:k=ts.length:=by omega
    subst hkl
    rw[List.take_length] at hown hat ⊢
    have hownF:=hid hown
    have hgF:=hid hgr
    have hatF:=hid hat
    clear hown hgr hat hbw hbw0 hlt
    go_wp2
    go_ret
    exact ⟨a',cp',rfl,hownF.out,hgF.out,hatF.out⟩
theorem zwp (d:Nat):zow d:=by
 induction d with
 | zero=>intro b o cap ss w _ _ _ _ hd;omega
 | succ d ih=>exact zr0 d ih (zoy d ih)
set_option maxHeartbeats 1000000 in
theorem zun (s:ByteArray) (w:World) (hs:s.size≤281474976710656) :
  Calls Tryz.prog 46 #[.string s] w fun e w'=>e = .returned (.string s)∧Below w.heap.size w w':=by
 have hC:=hid (Tryz.stringslite_Clone s w hs)
 go_enter Tryz.func46,Tryz.ntmps46
 go_wp2_with fail
 refine hC.out.mono ?_
 rintro e w' ⟨rfl,hb⟩
 have hbH:=hid hb
 clear hb
 go_wp2
 go_ret
 exact ⟨rfl,hbH.out⟩
set_option maxHeartbeats 2000000 in
theorem zx5 (P:List UInt8→Prop) (cont:List UInt8→Nat→List Nd) (hc:∀ c,P c→zt5 c (cont c)) (s:ByteArray) (w:World) (hs:s.size≤1500) (henv:Env w) (ts:List S.Blk) (hts:(S.za2 (s.size+1) (S.lines s.data.toList)).1=ts) (hg:zel P 0 ts) (hl:(zcg cont 0 ts).length≤1000000) :
  Calls Tryz.prog 14 #[.string s] w fun e w'=>∃ B a cp,e = .returned (.tuple #[.slice a (zcg cont 0 ts).length cp,.int .i64 0])∧w.heap.size≤B∧zba B a cp (zcg cont 0 ts) w'∧Below w.heap.size w w':=by
 have hC:=hid (zun s w (by omega))
 have hRd:Hid (∀ w1,Below w.heap.size w w1→Calls Tryz.prog 45 #[.string s] w1 fun e w'=>∃ v,e = .returned v∧Rep w' (fun x=>w1.heap.size≤x∧x<w'.heap.size) v ts∧Below w1.heap.size w1 w'):=hid (fun w1 hb=>by
  have:=zxw zwp s w1 (by omega) (henv.below hb)
  rw[hts] at this;exact this)
 have hgH:=hid hg
 have hlH:=hid hl
 have hcH:=hid hc
 have hs2:¬ (1500:Int)<(s.size:Int):=by omega
 have henvH:=hid henv
 clear hg hl hc hts henv
 go_enter Tryz.func14,Tryz.ntmps14
 go_wp2_with fail
 refine hC.out.mono ?_
 rintro e w1 ⟨rfl,hb1⟩
 have hRd1:=hid (hRd.out w1 hb1)
 have hb1H:=hid hb1
 have hz1:w.heap.size≤w1.heap.size:=hb1.size
 clear hb1
 go_wp2_with fail
 refine hRd1.out.mono ?_
 rintro e w2 ⟨v,rfl,hrep,hb2⟩
 obtain ⟨ka,kn,kc,rfl⟩:=hrep.form
 have hz2:w1.heap.size≤w2.heap.size:=hb2.size
 have hAB:=zk4 P cont hcH.out w2.heap.size w2 (henvH.out.below (hb1H.out.trans (hb2.mono hz1))) (Nat.le_refl _) _ (fun x hx=>hx.2) _ ts hrep w2 none 0 [] 0 (Below.refl _ _) (Nat.le_refl _) (zba.nil _ _) (by simpa using hlH.out) hgH.out
 rw[List.nil_append] at hAB
 have hABH:=hid hAB
 have hb2H:=hid hb2
 clear hrep hb2 hAB
 go_wp2_with fail
 refine hABH.out.mono ?_
 rintro e w3 ⟨a,cp,rfl,hown,hgr,hat⟩
 have hownH:=hid hown
 have hb3:Below w2.heap.size w2 w3:=Below.grown (Below.refl _ _) hgr (Nat.le_refl _) (fun g hg=>by simp[Value.ownBlock] at hg)
 have hb3H:=hid hb3
 clear hown hgr hat hb3
 go_wp2
 go_ret2
 exact ⟨w2.heap.size,a,cp,rfl,by omega,hownH.out,hb1H.out.trans ((hb2H.out.mono hz1).trans (hb3H.out.mono (by omega)))⟩
theorem zsb (l:List Nd) (i j:Nat) (x:Nd) (h:l[i]?=some x) (hj:j<5):(zao l)[5*i+j]?=(five x)[j]?:=by
 induction l generalizing i with
 | nil=>simp at h
 | cons q r ih=>
  have hl:(five q).length=5:=rfl
  cases i with
  | zero=>
   simp at h;subst h
   show (five q++zao r)[5*0+j]?=_
   rw[List.getElem?_append_left (by rw[hl];omega)];simp
  | succ i=>
   have:=ih i (by simpa using h)
   show (five q++zao r)[5*(i+1)+j]?=_
   rw[List.getElem?_append_right (by rw[hl];omega),hl,← this];congr 1;omega
theorem zba.some {B:Nat} {a:Option Addr} {cp:Nat} {l:List Nd} {w:World} (h:zba B a cp l w) (hpos:0<l.length) :
  ∃ g,a=some ⟨g,0,none⟩∧B≤g∧l.length≤cp∧∀ i j x u,l[i]?=some x→j<5→(five x)[j]?=some u→w.cell? ⟨g,5*i+j,none⟩=some u:=by
 rcases h.2 with ⟨h1,h2⟩|⟨g,cap,cur,h1,h2,h3,h4,h5,h6,h7⟩
 ·omega
 ·cases h1
  refine ⟨g,rfl,h2,h4,?_⟩
  intro i j x u hi hj hu
  have hx:=zsb l i j x hi hj
  rw[hu] at hx
  have:=World.ownsRow.cells h (g:=g) rfl (5*i+j) u hx
  have ha:(⟨g,0,none⟩:Addr).add (5*i+j)=⟨g,5*i+j,none⟩:=by
   simp only[Addr.add];split
   ·rename_i h;simp <;> omega
   ·simp <;> omega
  rw[← ha];exact this
namespace S
theorem zv6 (p r:List UInt8) (h:10 ∉ p):lines (p++10::r)=p::lines r:=by
 unfold lines
 rw[if_neg (by simp)]
 by_cases hr:r=[]
 ·subst hr
  rw[if_pos rfl]
  have:Lib.trimSuffix (p++[10]) [10]=p:=by
   unfold Lib.trimSuffix
   rw[if_pos (by unfold Lib.hasSuffix;simp)]
   simp
  rw[this,zrc p (List.count_eq_zero.2 h)]
 ·rw[if_neg hr]
  have:Lib.trimSuffix (p++10::r) [10]=p++10::Lib.trimSuffix r [10]:=by
   unfold Lib.trimSuffix
   by_cases hs:Lib.hasSuffix r [10]=true
   ·have hs':Lib.hasSuffix (p++10::r) [10]=true:=by
     unfold Lib.hasSuffix at *
     simp only[List.isSuffixOf_iff_suffix] at *
     exact hs.trans ((List.suffix_cons 10 r).trans (List.suffix_append p _))
    rw[if_pos hs,if_pos hs']
    have hl:0<r.length:=List.length_pos_iff.2 hr
    simp only[List.length_append,List.length_cons,List.length_nil]
    rw[show p.length+(r.length+1)-(0+1)=p.length+r.length from by omega,List.take_append,List.take_of_length_le (by omega)]
    congr 1
    rw[show p.length+r.length-p.length=(r.length-(0+1))+1 from by omega,List.take_succ_cons]
   ·have hs':¬ Lib.hasSuffix (p++10::r) [10]=true:=by
     unfold Lib.hasSuffix at *
     simp only[List.isSuffixOf_iff_suffix] at *
     rintro ⟨t,ht⟩
     apply hs
     obtain ⟨r',b,rfl⟩:∃ r' b,r=r' ++ [b]:=⟨r.dropLast,r.getLast hr,(List.dropLast_concat_getLast hr).symm⟩
     have:t++[10]=(p++10::r')++[b]:=by rw[ht];simp
     have h2:=(List.append_inj' this rfl).2
     simp at h2;subst h2
     exact List.suffix_append _ _
    rw[if_neg hs,if_neg hs']
  rw[this,z08 p _ h]
theorem zrq (p:List UInt8) (h:10 ∉ p) (hne:p≠[]):lines p=[p]:=by
 unfold lines;rw[if_neg hne]
 have:Lib.trimSuffix p [10]=p:=by
  unfold Lib.trimSuffix
  rw[if_neg]
  unfold Lib.hasSuffix
  simp only[List.isSuffixOf_iff_suffix]
  rintro ⟨t,ht⟩
  apply h;rw[← ht];simp
 rw[this,zrc p (List.count_eq_zero.2 h)]
theorem extract_data (s:ByteArray) (f k:Nat):(s.extract f k).data.toList=(s.data.toList.drop f).take (k-f):=by
 rw[Lib.extract_data]
theorem zy6 (l:List UInt8) (f k:Nat) (hf:f≤k) (hk:l[k]?=some 10) (h:10 ∉ (l.drop f).take (k-f)):lines (l.drop f)=(l.drop f).take (k-f)::lines (l.drop (k+1)):=by
 obtain ⟨hl,hx⟩:=List.getElem?_eq_some_iff.1 hk
 have e:l.drop f=(l.drop f).take (k-f)++10::l.drop (k+1):=by
  conv=>lhs;rw[← List.take_append_drop (k-f) (l.drop f)]
  rw[List.drop_drop,show f+(k-f)=k from by omega,List.drop_eq_getElem_cons hl,hx]
 conv=>lhs;rw[e]
 exact zv6 _ _ h
theorem z0g (l:List UInt8) (f k:Nat) (hf:f≤k) (x:UInt8) (hk:l[k]?=some x) (hx:x≠10) (h:10 ∉ (l.drop f).take (k-f)):10 ∉ (l.drop f).take (k+1-f):=by
 rw[show k+1-f=(k-f)+1 from by omega,List.take_add_one,List.getElem?_drop,show f+(k-f)=k from by omega,hk]
 simp only[Option.toList,List.mem_append,List.mem_singleton,not_or]
 exact ⟨h,fun e=>hx e.symm⟩
end S
end Go.Proofs.YtlojgpkajkedeaaGreatDoor
