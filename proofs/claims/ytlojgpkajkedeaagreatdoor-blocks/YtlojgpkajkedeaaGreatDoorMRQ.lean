import Derived.Test.YtlojgpkajkedeaaGreatDoorMW17
import Derived.Test.YtlojgpkajkedeaaGreatDoorMRN
namespace Go.Proofs.YtlojgpkajkedeaaGreatDoor
open Go.RowKit
def BRel (C:List UInt8→List Rn→Prop) (d:Nat) (w:World) (ls:List Ln) (z:Int) (k n':Nat) (a:Option Addr) (cp:Nat) (g:Bool) (wr:World):Prop:=∃ (ps:List (Rn × Value)) (bs:List S.Blk),n'=ps.length∧znl d (datL ls) k bs g∧MatL C z bs (ps.map Prod.fst)∧ps.length≤k∧bs.length=ps.length∧NRel w.heap.size w ps (.slice a ps.length cp) wr
set_option maxRecDepth 100000 in
set_option maxHeartbeats 4000000 in
theorem zqm (C:List UInt8→List Rn→Prop) (d:Nat) (hW:WOK C) (hR:ROK C d) (hL:LOK C d):ROK C (d+1):=by
 intro b o cap ls z w hcap hbw hrow hnum hd
 have hlen:=hrow.len
 have hrowH:=hid hrow
 have hnumH:=hid hnum
 have hWH:=hid hW
 have hRH:=hid hR
 have hLH:=hid hL
 have hdH:=hid hd
 have hfin:Hid (∀ (k n' cp:Nat) (a:Option Addr) (g:Bool) (wr:World),BRel C d w ls z k n' a cp g wr→(datL ls).length≤k+S.za5 ((datL ls).drop k)→∃ v ns,Ending.returned (.tuple #[.slice a n' cp,.bool g]) = .returned (.tuple #[v,.bool (S.za2 (d+1) (datL ls)).2])∧RepN wr (fun x=>w.heap.size≤x∧x<wr.heap.size) v ns∧Hid (MatL C z (S.za2 (d+1) (datL ls)).1 ns)∧Below w.heap.size w wr):=hid (by
  rintro k n' cp a g wr ⟨ps,bs,rfl,hRA,hM,_,_,hN⟩ he
  have hE:=hRA.last he
  refine ⟨_,ps.map Prod.fst,by rw[hE],?_,hid (by rw[hE];exact hM),hN.below⟩
  refine zgw hN.own (fun g hg=>?_) (fun i p hi=>(hN.kids i p hi).move (fun x hx=>⟨hx.1,hx.2.1⟩) (fun _ _=>rfl))
  exact hN.own.lt g hg)
 clear hrow hnum hW hR hL hd
 go_enter Tryz.func47,Tryz.ntmps47
 go_wp2
 go_loopw [4,5,6,7,8,9] (fun ov gv av _ _ _ wr=>∃ (k n':Nat) (a:Option Addr) (cp:Nat) (g:Bool),k≤ls.length∧av = .int .i64 k∧ov = .slice a n' cp∧gv = .bool g∧Hid (BRel C d w ls z k n' a cp g wr)) (fun _ _ av _ _ _ _=>ls.length-(intOf av).toNat)
 case atStart=>exact ⟨0,0,none,0,false,Nat.zero_le _,rfl,rfl,rfl,hid ⟨[],[],rfl,znl.start _ _,trivial,Nat.le_refl _,rfl,NRel.start _ _⟩⟩
 case round=>
  obtain ⟨k,n',a,cp,g,hk,rfl,rfl,rfl,hr⟩:=hrel
  by_cases hlt:k<ls.length
  ·have hJ1:(k:Int)<(ls.length:Int):=by omega
   have hbr:Hid (Below w.heap.size w wr):=hid (by obtain ⟨ps,bs,_,_,_,_,_,hN⟩:=hr.out;exact hN.below)
   go_upto_region 6 with fail
   go_loop [6] (fun av=>∃ i:Nat,k+i≤ls.length∧av = .int .i64 ((k:Int)+(i:Int))∧Hid (∀ j,j<i→(((datL ls).drop k)[j]?.map S.blank)=some true)) (fun av=>ls.length-(intOf av).toNat)
   case atStart=>exact ⟨0,by omega,by simp,hid (by intro j hj;omega)⟩
   case round=>
    obtain ⟨i,hi,rfl,hall⟩:=hrel
    have hJ2:(0:Int)≤(k:Int)+(i:Int):=by omega
    have hton:((k:Int)+(i:Int)).toNat=k+i:=by omega
    by_cases hin:k+i<ls.length
    ·obtain ⟨p,hp⟩:∃ p,ls[k+i]?=some p:=⟨ls[k+i],List.getElem?_eq_getElem hin⟩
     have hcA:=(hrowH.out.1 (k+i) p hp).1
     have hcB:=(hrowH.out.1 (k+i) p hp).2
     have hsz:=hrowH.out.size (k+i) p hp
     have hd:=hid (zca ls (k+i) p hp)
     obtain ⟨bl,hbl⟩:∃ bl,S.blank p.1.data.toList=bl:=⟨_,rfl⟩
     have hBl:=zc1 p.1 wr hsz
     rw[hbl] at hBl
     have hBH:Hid (Calls Tryz.prog 67 #[.string p.1] wr fun e w'=>e = .returned (.bool bl)∧wr=w'):=hid (hBl.mono (fun e w' ⟨h1,h2⟩=>⟨h1,h2.symm⟩))
     have hpH:=hid hp
     have hblH:=hid hbl
     obtain ⟨s,y⟩:=p
     dsimp only at hcA hcB hsz hBH
     have hcr:wr.cell? ⟨b,o+(k+i)*2,none⟩=some (.string s):=(hbr.out.cell (p:=⟨b,o+(k+i)*2,none⟩) hbw).trans hcA
     have hcBH:=hid hcB
     have hJ3:(k:Int)+(i:Int)<(ls.length:Int):=by omega
     clear hp hcA hcB hBl hbl
     cases bl
     case true=>
      have hall':Hid (∀ j,j<i+1→(((datL ls).drop k)[j]?.map S.blank)=some true):=hid (by
       intro j hj
       by_cases e:j=i
       ·subst e;rw[List.getElem?_drop,hd.out,Option.map_some];exact congrArg some hblH.out
       ·exact hall.out j (by omega))
      go_wp2_with fail
      refine hBH.out.mono ?_
      rintro e w' ⟨rfl,rfl⟩
      go_wp2
      exact ⟨⟨i+1,by omega,by go_num,hall'.out⟩,by simp[intOf];omega⟩
     have hcb:Hid (S.za5 ((datL ls).drop k)=i):=hid (S.ze2 _ i hall.out (by rw[List.getElem?_drop,hd.out,Option.map_some];intro e;rw[show S.blank ((s,y):Ln).1.data.toList=false from hblH.out] at e;simp at e))
     go_wp2_with fail
     refine hBH.out.mono ?_
     rintro e w' ⟨rfl,rfl⟩
     have hJ5:(((k:Int)+(i:Int)) == (ls.length:Int))=false:=by rw[beq_eq_false_iff_ne];omega
     have hJ6:¬ (k:Int)+(i:Int)=(ls.length:Int):=by omega
     go_upto_region 9 with fail
     obtain ⟨g2,hg2⟩:∃ g2:Bool,(g || (decide (0<i) && decide (0<n')))=g2:=⟨_,rfl⟩
     have hg2H:=hid hg2
     clear hg2
     go_cut [5] (fun s5 wx=>s5 = .bool g2∧wr=wx)
     case first=>
      cases g
      ·by_cases h1:0<i
       ·have h1':(k:Int)<(k:Int)+(i:Int):=by omega
        have h1'':(0:Int)<(i:Int):=by omega
        by_cases h2:0<n'
        ·have h2':(0:Int)<(n':Int):=by omega
         have he:Hid (g2=true):=hid (by rw[← hg2H.out,decide_eq_true h1,decide_eq_true h2];rfl)
         go_wp2
         go_meet
         exact ⟨by rw[he.out],rfl⟩
        ·have h2':¬ (0:Int)<(n':Int):=by omega
         have he:Hid (g2=false):=hid (by rw[← hg2H.out,decide_eq_true h1,decide_eq_false h2];rfl)
         go_wp2
         go_meet
         exact ⟨by rw[he.out],rfl⟩
       ·have h1':¬ (k:Int)<(k:Int)+(i:Int):=by omega
        have h1'':¬ (0:Int)<(i:Int):=by omega
        have he:Hid (g2=false):=hid (by rw[← hg2H.out,decide_eq_false h1];rfl)
        go_wp2
        go_meet
        exact ⟨by rw[he.out],rfl⟩
      ·have he:Hid (g2=true):=hid (by rw[← hg2H.out];rfl)
       go_wp2
       go_meet
       exact ⟨by rw[he.out],rfl⟩
     case rest=>
     obtain ⟨rfl,rfl⟩:=hcut
     have hdrop:ls.drop (k+i)=(s,y)::ls.drop (k+i+1):=by
      rw[List.drop_eq_getElem_cons hin]
      congr 1
      have:=hpH.out
      rw[List.getElem?_eq_getElem hin] at this
      exact Option.some.inj this
     obtain ⟨ts,hts⟩:∃ ts,ls.drop (k+i+1)=ts:=⟨_,rfl⟩
     rw[hts] at hdrop
     have hl1:ts.length+1=ls.length-(k+i):=by rw[← hts,List.length_drop];omega
     obtain ⟨RB,hRB⟩:∃ RB,S.zah (S.za2 d) (datL (((s,y):Ln)::ts))=RB:=⟨_,rfl⟩
     have hrowD:=(hrowH.out.below hbr.out hbw).drop (k+i)
     have hnumD:=hnumH.out.drop (k+i)
     rw[hdrop] at hrowD hnumD
     have hbwr:b<wr.heap.size:=Nat.lt_of_lt_of_le hbw hbr.out.size
     have hBk0:=zuh C d hWH.out hRH.out hLH.out b (o+(k+i)*2) (cap-(k+i)) ((s,y):Ln) ts (z+((k+i:Nat):Int)) wr (by omega) hrowD hnumD hbwr hblH.out (by
      rw[← hdrop,zm8]
      have:=zh7 (datL ls) (k+i)
      have:=hdH.out
      omega)
     rw[hRB,hl1] at hBk0
     obtain ⟨K,n,inf,tx,sz,hE0,hEq0⟩:∃ K n inf tx sz,BIs RB K n inf tx sz∧(K=RB.1.kind∧n=RB.1.n∧inf=S.B RB.1.info∧tx=S.B (zcq RB.1.kind RB.1.text RB.1.loose)∧sz=(RB.2:Int)):=⟨RB.1.kind,RB.1.n,S.B RB.1.info,S.B (zcq RB.1.kind RB.1.text RB.1.loose),(RB.2:Int),⟨fun kv ns=>rfl,rfl⟩,rfl,rfl,rfl,rfl,rfl⟩
     have hEq:=hid hEq0
     have hszb:=S.zfc (S.za2 d) s.data.toList (datL ts)
     rw[show S.zah (S.za2 d) (s.data.toList::datL ts)=RB from hRB] at hszb
     have hsz1:Hid (1≤RB.2∧k+i+RB.2≤ls.length):=hid ⟨hszb.1,by have h2:=hszb.2;simp only[List.length_cons,zaq] at h2;omega⟩
     have hszi:Hid (0<sz∧(k:Int)+(i:Int)+sz≤(ls.length:Int)):=hid (by have:=hEq0.2.2.2.2;have:=hsz1.out;omega)
     have hwrz:IntKind.i64.wrap ((k:Int)+(i:Int)+sz)=(k:Int)+(i:Int)+sz:=by rw[IntKind.wrap_i64];have:=hszi.out;omega
     clear hszb hEq0
     have hE:=hid hE0
     have hBk:Hid (Calls Tryz.prog 68 #[.slice (some ⟨b,o+(k+i)*2,none⟩) (ls.length-(k+i)) (cap-(k+i))] wr (zu9 C (z+((k+i:Nat):Int)) RB.1 wr K n inf tx sz)):=hid (hBk0.mono (by
      rintro e w2 ⟨kv,ns,rfl,hrep,hM,hb2⟩
      obtain ⟨ka,kn,kc,rfl⟩:=hrep.form
      exact ⟨ka,kn,kc,ns,by rw[hE.out.1,hE.out.2],hid ⟨hrep,hM.out,hb2⟩⟩))
     have hJ7:(k:Int)+(i:Int)≤(ls.length:Int):=by omega
     have hJ8:(k:Int)+(i:Int)≤(cap:Int):=by omega
     have hne:¬ cap=k+i:=by omega
     have hRBH:=hid hRB
     have hl1H:=hid hl1
     have hdropH:=hid hdrop
     clear hBk0 hE0 hrowD hnumD hRB hl1 hdrop hts
     go_wp2_with fail
     refine hBk.out.mono ?_
     rintro e w1 ⟨ka,kn,kc,ns,rfl,hU⟩
     go_upto_region 11 with fail
     obtain ⟨W2,hW2⟩:∃ W2,W2=w1.alloc (.cells #[.int .i64 0,.int .i64 K,.int .i64 n,.string inf,.string tx,.int .i64 0,.slice ka kn kc] 118):=⟨_,rfl⟩
     rw[← hW2]
     have hb12:Below w1.heap.size w1 W2:=by rw[hW2];exact (Below.refl _ _).alloc (Nat.le_refl _) _
     have hs2:W2.heap.size=w1.heap.size+1:=by rw[hW2];simp
     have hx2:W2.heap[w1.heap.size]?=some (.cells #[.int .i64 0,.int .i64 K,.int .i64 n,.string inf,.string tx,.int .i64 0,.slice ka kn kc] 118 (0,0)):=by rw[hW2];exact za1 _ _
     have hbw1:b<w1.heap.size:=Nat.lt_of_lt_of_le hbwr hU.out.2.2.size
     have hcy:W2.cell? ⟨b,o+(k+i)*2+1,none⟩=some (.int .i64 y):=(hb12.cell (p:=⟨b,o+(k+i)*2+1,none⟩) hbw1).trans ((hU.out.2.2.cell (p:=⟨b,o+(k+i)*2+1,none⟩) hbwr).trans ((hbr.out.cell (p:=⟨b,o+(k+i)*2+1,none⟩) hbw).trans hcBH.out))
     have d5:W2.cell? ⟨w1.heap.size,5,none⟩=some (.int .i64 0):=za0 hx2 5 _ rfl
     have g5:=za7 hx2
     obtain ⟨W3,hW3⟩:∃ W3,W3=W2.setCell ⟨w1.heap.size,5,none⟩ (.int .i64 y):=⟨_,rfl⟩
     have hx3:W3.heap[w1.heap.size]?=some (.cells #[.int .i64 0,.int .i64 K,.int .i64 n,.string inf,.string tx,.int .i64 y,.slice ka kn kc] 118 (0,0)):=by rw[hW3];exact za3 (cs:=[.int .i64 0,.int .i64 K,.int .i64 n,.string inf,.string tx,.int .i64 0,.slice ka kn kc]) hx2 5 _
     have hb13:Below w1.heap.size w1 W3:=by rw[hW3];exact hb12.setCell (p:=⟨w1.heap.size,5,none⟩) (Nat.le_refl _) _
     have hs3:W3.heap.size=w1.heap.size+1:=by rw[hW3];simp[World.setCell,hs2]
     have hW3H:=hid hW3
     have hx3H:=hid hx3
     have hb13H:=hid hb13
     have hs3H:=hid hs3
     clear hW2 hb12 hs2 hx2 hW3 hx3 hb13 hs3
     go_upto_region 12 with fail
     rw[← hW3H.out]
     clear hcy d5 g5
     have q0:W3.cell? ⟨w1.heap.size,0,none⟩=some (.int .i64 0):=za0 hx3H.out 0 _ rfl
     have q1:W3.cell? ⟨w1.heap.size,1,none⟩=some (.int .i64 K):=za0 hx3H.out 1 _ rfl
     have q2:W3.cell? ⟨w1.heap.size,2,none⟩=some (.int .i64 n):=za0 hx3H.out 2 _ rfl
     have q3:W3.cell? ⟨w1.heap.size,3,none⟩=some (.string inf):=za0 hx3H.out 3 _ rfl
     have q4:W3.cell? ⟨w1.heap.size,4,none⟩=some (.string tx):=za0 hx3H.out 4 _ rfl
     have q5:W3.cell? ⟨w1.heap.size,5,none⟩=some (.int .i64 y):=za0 hx3H.out 5 _ rfl
     have q6:W3.cell? ⟨w1.heap.size,6,none⟩=some (.slice ka kn kc):=za0 hx3H.out 6 _ rfl
     obtain ⟨ps,bs,rfl,hRA,hM,hpk,hbl2,hN⟩:=hr.out
     obtain ⟨i0,hi',hi0,hi1,hi2⟩:=info_parts Tryz.zla
     have hwrs:w.heap.size≤wr.heap.size:=hbr.out.size
     have hb1r:Below wr.heap.size wr w1:=hU.out.2.2
     have hw1s:w.heap.size≤w1.heap.size:=Nat.le_trans hwrs hb1r.size
     have hbX:Hid (∀ ob,Below w1.heap.size w1 (W3.alloc ob)):=hid (fun ob=>hb13H.out.alloc hb13H.out.size ob)
     have hown2:Hid (∀ ob,(W3.alloc ob).ownsRow w.heap.size 118 7 (.slice a ps.length cp) ps.length (zc6 ps)):=hid (fun ob=>(hN.own.kept (Below.zgu (hb1r.trans (hb13H.out.mono hb1r.size))) (by
      cases h:(Value.slice a ps.length cp).ownBlock with
      | none=>exact .inl rfl
      | some g=>exact .inr (by simp))).alloc ob)
     have hnew:Hid (∀ j v,([.int .i64 0,.int .i64 K,.int .i64 n,.string inf,.string tx,.int .i64 y,.slice ka kn kc]:List Value)[j]?=some v→(W3.alloc (.cells #[.int .i64 0,.int .i64 K,.int .i64 n,.string inf,.string tx,.int .i64 y,.slice ka kn kc] 118)).cell? ((⟨W3.heap.size,0,none⟩:Addr).add j)=some v):=hid (fun j v hj=>World.news_of_block (za1 _ _) j v (by exact hj))
     have hone:Hid (∀ v∈([.int .i64 0,.int .i64 K,.int .i64 n,.string inf,.string tx,.int .i64 y,.slice ka kn kc]:List Value),v.oneCell'=true):=hid (by
      intro v hv;simp at hv;rcases hv with rfl|rfl|rfl|rfl|rfl|rfl|rfl <;> rfl)
     have hstep:Hid (∀ ob g' cap1 w2,w2.ownsRow w.heap.size 118 7 (.slice (some ⟨g',0,none⟩) (ps.length+1) cap1) (ps.length+1) (zc6 ps++[.int .i64 0,.int .i64 K,.int .i64 n,.string inf,.string tx,.int .i64 y,.slice ka kn kc])→(W3.alloc ob).grownBy w2 (Value.slice a ps.length cp).ownBlock→((Value.slice a ps.length cp).ownBlock=some g'∨w1.heap.size≤g')→BRel C d w ls z (k+i+RB.2) (ps.length+1) (some ⟨g',0,none⟩) cap1 g2 w2):=hid (fun ob g' cap1 w2 ho hgw hat=>by
      obtain ⟨e1,e2,e3,e4,e5⟩:=hEq.out
      have hy:y=z+((k+i:Nat):Int):=hnumH.out (k+i) (s,y) hpH.out
      refine ⟨ps++[(.nd RB.1.kind RB.1.n RB.1.info (zcq RB.1.kind RB.1.text RB.1.loose) y ns,.slice ka kn kc)],bs++[RB.1.put ((k+i:Nat):Int)],by simp,?_,?_,?_,by simp[hbl2],?_⟩
      ·have hst:=hRA.step hcb.out (by rw[zaq];exact hin) (b:=RB.1) (z:=RB.2) (by rw[← zm8,hdropH.out];exact hRBH.out) hsz1.out.1 (by rw[zaq];exact hsz1.out.2)
       have hbe:(!bs.isEmpty)=decide (0<ps.length):=by rw[← hbl2];cases bs <;> simp
       rw[hbe,hg2H.out] at hst
       exact hst
      ·rw[List.map_append]
       refine hM.append ?_
       simp only[List.map_cons,List.map_nil,MatL,and_true]
       rw[hy]
       exact zx7 hU.out.2.1
      ·rw[List.length_append];have:=hsz1.out.1;simp;omega
      ·refine hN.step hwrs hb1r hU.out.1 ?_ (hbX.out ob) hgw hat
       subst e1 e2 e3 e4
       exact ho)
     have hsW3:w.heap.size≤W3.heap.size:=by have:=hs3H.out;omega
     have hps:ps.length+1≤1000001:=by omega
     clear hRA hM hpk hbl2 hN hb1r
     go_wp2_with (at_builtin;refine wpList_append_lies _ (by rfl) _ _ 80 (by rfl) w.heap.size 118 i0 (.agg #[.int .i64 0,.int .i64 0,.int .i64 0,.string ⟨#[]⟩,.string ⟨#[]⟩,.int .i64 0,.slice none 0 0]) 7 88 Tryz.underlying80 hi' hi0 hi1 hi2 (by rfl) (by omega) (.slice a ps.length cp) ps.length (zc6 ps) (by rfl) (hown2.out _) ⟨W3.heap.size,0,none⟩ 1 1 [.int .i64 0,.int .i64 K,.int .i64 n,.string inf,.string tx,.int .i64 y,.slice ka kn kc] (by rfl) (by rfl) hnew.out hone.out (by omega) (by unfold maxLen;omega) (by omega) (by simp;omega) (W3.heap.size+1) (by simp) ?_)
     intro g' cap1 w2 hown1 hgrow hat hltg
     have hR:=hid (hstep.out _ g' cap1 w2 hown1 hgrow (by rcases hat with h|h;exact .inl h;exact .inr (by have:=hs3H.out;omega)))
     clear hown1 hgrow hat hltg
     go_wp2
     go_roundw
     case rel=>exact ⟨k+i+RB.2,ps.length+1,some ⟨g',0,none⟩,cap1,g2,hsz1.out.2,by rw[hEq.out.2.2.2.2];go_num,rfl,rfl,hR⟩
     case measure=>simp[intOf];have:=hszi.out;omega
    ·have hie:k+i=ls.length:=by omega
     have hcb:Hid (S.za5 ((datL ls).drop k)=i):=hid (S.ze2 _ i hall.out (by rw[List.getElem?_drop,List.getElem?_eq_none (by rw[zaq];omega)];simp))
     have hres:=hid (hfin.out k n' cp a g wr hr.out (by rw[hcb.out,zaq];omega))
     have hJ3:¬ (k:Int)+(i:Int)<(ls.length:Int):=by omega
     have hJ4:(k:Int)+(i:Int)=(ls.length:Int):=by omega
     have hJ5:(((k:Int)+(i:Int)) == (ls.length:Int))=true:=by rw[beq_iff_eq];omega
     clear hie
     go_wp2
     refine bodyPost_ret (v:=.tuple #[.slice a n' cp,.bool g]) (by simp[results,Tryz.results47,go_sem]) rfl ?_
     obtain ⟨v,ns,h1,h2,h3,h4⟩:=hres.out
     first|exact ⟨v,ns,h1,h2,h3,h4⟩|exact ⟨v,h1,ns,h2,h3,h4⟩|exact ⟨v,h1,⟨ns,h2,h3⟩,h4⟩
  ·have hJ1:¬ (k:Int)<(ls.length:Int):=by omega
   have hres:=hid (hfin.out k n' cp a g wr hr.out (by rw[zaq];omega))
   go_wp2
   refine bodyPost_ret (v:=.tuple #[.slice a n' cp,.bool g]) (by simp[results,Tryz.results47,go_sem]) rfl ?_
   obtain ⟨v,ns,h1,h2,h3,h4⟩:=hres.out
   first|exact ⟨v,ns,h1,h2,h3,h4⟩|exact ⟨v,h1,ns,h2,h3,h4⟩|exact ⟨v,h1,⟨ns,h2,h3⟩,h4⟩
def zhl (d:Nat) (m:S.Mark) (row:List (List UInt8)) (k:Nat) (x:List UInt8) (bs0:List S.Blk) (lo:Bool):Prop:=row[k]?=some x∧(S.item x).ok=true∧∃ f,row.length-k≤f ∧
 S.zbg (S.za2 d) m row=(.mk 6 m.number [] [] (lo || (S.zam (S.za2 d) m.kind row.length f (S.item x) (row.drop k)).2.1) (bs0++(S.zam (S.za2 d) m.kind row.length f (S.item x) (row.drop k)).1),k+(S.zam (S.za2 d) m.kind row.length f (S.item x) (row.drop k)).2.2)
theorem zhl.start (d:Nat) (x:List UInt8) (r:List (List UInt8)) (h:(S.item x).ok=true):zhl d (S.item x) (x::r) 0 x [] false:=by
 refine ⟨rfl,h,(x::r).length,by omega,?_⟩
 rw[List.drop_zero,Nat.zero_add,Bool.false_or,List.nil_append]
 rfl
def zo7 (d:Nat) (k:Nat) (own:List (List UInt8)):S.Blk:=.at_ (k:Int) 7 0 [] [] false (S.za2 d own).1
theorem zhl.last {d:Nat} {m:S.Mark} {row:List (List UInt8)} {k:Nat} {x:List UInt8} {bs0:List S.Blk} {lo:Bool} (h:zhl d m row k x bs0 lo) {own:List (List UInt8)} (ho:S.zae (S.item x) (row.drop k)=own) {gap:Nat} (hg:S.za5 (row.drop (k+own.length))=gap) (hn:(S.zas m.kind (row.drop (k+own.length+gap))).ok=false) :
  S.zbg (S.za2 d) m row=(.mk 6 m.number [] [] (lo || (S.za2 d own).2) (bs0++[zo7 d k own]),k+own.length):=by
 obtain ⟨hx,hok,f,hf,h⟩:=h
 have hk:=(List.getElem?_eq_some_iff.1 hx).1
 obtain ⟨f,rfl⟩:∃ f',f=f' + 1:=⟨f-1,by omega⟩
 have e:S.zam (S.za2 d) m.kind row.length (f+1) (S.item x) (row.drop k)=([zo7 d k own],(S.za2 d own).2,own.length):=by
  simp only[S.zam]
  have e0:(row.drop k).drop own.length=row.drop (k+own.length):=by rw[List.drop_drop]
  have e00:(row.drop k).drop (own.length+gap)=row.drop (k+own.length+gap):=by rw[List.drop_drop,Nat.add_assoc]
  rw[ho,e0,hg,e00,hn,List.length_drop,if_neg (by simp)]
  have e1:row.length-(row.length-k)=k:=by omega
  rw[e1];rfl
 rw[h,e]
theorem zhl.step {d:Nat} {m:S.Mark} {row:List (List UInt8)} {k:Nat} {x:List UInt8} {bs0:List S.Blk} {lo:Bool} (h:zhl d m row k x bs0 lo) {own:List (List UInt8)} (ho:S.zae (S.item x) (row.drop k)=own) {gap:Nat} (hg:S.za5 (row.drop (k+own.length))=gap) (hn:(S.zas m.kind (row.drop (k+own.length+gap))).ok=true) (h1:1≤own.length) :
  ∃ y,zhl d m row (k+own.length+gap) y (bs0++[zo7 d k own]) (lo || (S.za2 d own).2 || decide (0<gap)):=by
 obtain ⟨hx,hok,f,hf,h⟩:=h
 have hk:=(List.getElem?_eq_some_iff.1 hx).1
 obtain ⟨f,rfl⟩:∃ f',f=f' + 1:=⟨f-1,by omega⟩
 cases hr:row.drop (k+own.length+gap) with
 | nil=>rw[hr] at hn;simp[S.zas] at hn
 | cons y r=>
  rw[hr] at hn
  obtain ⟨n1,n2,n3⟩:=S.zf7 m.kind y r hn
  refine ⟨y,?_,n3,f,by omega,?_⟩
  ·have:=congrArg (fun l=>l[0]?) hr
   simpa [List.getElem?_drop] using this
  ·have e:S.zam (S.za2 d) m.kind row.length (f+1) (S.item x) (row.drop k)=(zo7 d k own::(S.zam (S.za2 d) m.kind row.length f (S.item y) (y::r)).1,(S.za2 d own).2 || decide (0<gap) || (S.zam (S.za2 d) m.kind row.length f (S.item y) (y::r)).2.1,own.length+gap+(S.zam (S.za2 d) m.kind row.length f (S.item y) (y::r)).2.2):=by
    simp only[S.zam]
    have e0:(row.drop k).drop own.length=row.drop (k+own.length):=by rw[List.drop_drop]
    have e00:(row.drop k).drop (own.length+gap)=row.drop (k+own.length+gap):=by rw[List.drop_drop,Nat.add_assoc]
    rw[ho,e0,hg,e00,hr,n1,n3,List.length_drop,if_pos rfl]
    have e1:row.length-(row.length-k)=k:=by omega
    rw[e1];rfl
   rw[h,e,hr]
   refine Prod.ext ?_ ?_
   ·simp only[List.append_assoc,List.singleton_append,Bool.or_assoc]
   ·dsimp only;omega
theorem zzv (C:List UInt8→List Rn→Prop) (hW:WOK C) (hL:∀ d,ROK C d→LOK C d) (d:Nat):ROK C d:=by
 induction d with
 | zero=>
  intro b o cap ls z w _ _ _ _ hd
  exact absurd hd (Nat.not_lt_zero _)
 | succ d ih=>exact zqm C d hW ih (hL d ih)
theorem NRel.zza {B:Nat} {w wr:World} {ps:List (Rn × Value)} {v:Value} (h:NRel B w ps v wr) (N j:Nat) (hN:N<B) (u:Value):NRel B (wr.setCell ⟨N,j,none⟩ u) ps v (wr.setCell ⟨N,j,none⟩ u):=by
 have hb:∀ x,B≤x→(wr.setCell ⟨N,j,none⟩ u).heap[x]?=wr.heap[x]?:=fun x hx=>Below.heap_setCell _ _ _ _ (by show x≠N;omega)
 have hs:(wr.setCell ⟨N,j,none⟩ u).heap.size=wr.heap.size:=by simp[World.setCell]
 refine ⟨zej h.own (fun x hx _=>hb x hx),fun i p hi=>(h.kids i p hi).move (fun x hx=>⟨hx.1,by rw[hs];exact hx.2.1,hx.2.2⟩) (fun x hx=>hb x hx.1),Below.refl _ _⟩
theorem NRel.after {B:Nat} {w wr w1:World} {ps:List (Rn × Value)} {v:Value} (h:NRel B w ps v wr) (hb:Below wr.heap.size wr w1):NRel B w1 ps v w1:=by
 have hlt:=h.own.lt
 refine ⟨zej h.own (fun x _ hx2=>hb.block x hx2),fun i p hi=>(h.kids i p hi).move (fun x hx=>⟨hx.1,Nat.lt_of_lt_of_le hx.2.1 hb.size,hx.2.2⟩) (fun x hx=>hb.block x hx.2.1),Below.refl _ _⟩
structure LRel (C:List UInt8→List Rn→Prop) (d:Nat) (m:S.Mark) (w W3:World) (ls:List Ln) (z:Int) (k n':Nat) (a:Option Addr) (cp:Nat) (lo:Bool) (ps:List (Rn × Value)) (bs:List S.Blk) (x:List UInt8) (wr:World):Prop where
 num:n'=ps.length
 at_:zhl d m (datL ls) k x bs lo
 mat:MatL C z bs (ps.map Prod.fst)
 same:bs.length=ps.length
 count:ps.length≤k
 row:NRel (w.heap.size+3) wr ps (.slice a n' cp) wr
 out:wr.heap[w.heap.size+2]?=some (.cells #[.int .i64 0,.int .i64 6,.int .i64 m.number,.string ⟨#[]⟩,.string (S.B (zcq 6 [] lo)),.int .i64 0,.slice a n' cp] 118 (0,0))
 below:Below (w.heap.size+2) W3 wr
 size:w.heap.size+3≤wr.heap.size
structure OMid (W4:World) (pb:Nat) (y:Int) (ka:Option Addr) (kn kc:Nat) (ns:List Rn) (wx:World):Prop where
 below:Below W4.heap.size W4 wx
 blk:wx.heap[pb]?=some (.cells #[.int .i64 0,.int .i64 7,.int .i64 0,.string ⟨#[]⟩,.string ⟨#[]⟩,.int .i64 y,.slice ka kn kc] 118 (0,0))
 rep:RepN wx (fun x=>W4.heap.size≤x∧x<wx.heap.size) (.slice ka kn kc) ns
theorem z1f {W4 w0 w3:World} {y:Int} {ka:Option Addr} {kn kc:Nat} {ns:List Rn} (h0:Below W4.heap.size W4 w0) (hr:RepN w3 (fun x=>w0.heap.size≤x∧x<w3.heap.size) (.slice ka kn kc) ns) (h3:Below w0.heap.size w0 w3) :
  OMid W4 w3.heap.size y ka kn kc ns (w3.alloc (.cells #[.int .i64 0,.int .i64 7,.int .i64 0,.string ⟨#[]⟩,.string ⟨#[]⟩,.int .i64 y,.slice ka kn kc] 118)):=by
 have h1:=h0.size
 have h2:=h3.size
 have hb:Below w3.heap.size w3 (w3.alloc (.cells #[.int .i64 0,.int .i64 7,.int .i64 0,.string ⟨#[]⟩,.string ⟨#[]⟩,.int .i64 y,.slice ka kn kc] 118)):=(Below.refl _ _).alloc (Nat.le_refl _) _
 exact ⟨(h0.trans (h3.mono h1)).alloc (by omega) _,za1 _ _,hr.move (fun x hx=>⟨by omega,Nat.lt_of_lt_of_le hx.2 hb.size⟩) (fun x hx=>hb.block x hx.2)⟩
theorem z1d {W4 w0 w3:World} {y:Int} {ka:Option Addr} {kn kc:Nat} {ns:List Rn} (h0:Below W4.heap.size W4 w0) (hz:w0.heap.size=W4.heap.size+1)
  (hx:w0.heap[W4.heap.size]?=some (.cells #[.int .i64 0,.int .i64 0,.int .i64 0,.string ⟨#[]⟩,.string ⟨#[]⟩,.int .i64 0,.slice none 0 0] 118 (0,0)))
  (hr:RepN w3 (fun x=>w0.heap.size≤x∧x<w3.heap.size) (.slice ka kn kc) ns) (h3:Below w0.heap.size w0 w3) :
  OMid W4 W4.heap.size y ka kn kc ns (((((((w3.setCell ⟨W4.heap.size,0,none⟩ (.int .i64 0)).setCell ⟨W4.heap.size,1,none⟩ (.int .i64 7)).setCell ⟨W4.heap.size,2,none⟩ (.int .i64 0)).setCell ⟨W4.heap.size,3,none⟩ (.string ⟨#[]⟩)).setCell ⟨W4.heap.size,4,none⟩ (.string ⟨#[]⟩)).setCell ⟨W4.heap.size,5,none⟩ (.int .i64 y)).setCell ⟨W4.heap.size,6,none⟩ (.slice ka kn kc)):=by
 have h1:=h0.size
 have h2:=h3.size
 exact ⟨zb7 (h0.trans (h3.mono h1)) (Nat.le_refl _) _ _ _ _ _ _ _,set7 ((h3.block W4.heap.size (by omega)).trans hx) _ _ _ _ _ _ _,(zcs hr (N:=W4.heap.size) (fun x hx e=>by omega) _ _ _ _ _ _ _).move (fun x hx=>⟨by omega,by rw[zhb];exact hx.2⟩) (fun _ _=>rfl)⟩
structure LMid (C:List UInt8→List Rn→Prop) (d:Nat) (m:S.Mark) (w W3:World) (ls:List Ln) (z:Int) (k:Nat) (a:Option Addr) (cp:Nat) (lo lo2:Bool) (Ow:List (List UInt8)) (ps:List (Rn × Value)) (bs:List S.Blk) (x:List UInt8) (wr:World):Prop where
 at_:zhl d m (datL ls) k x bs lo
 mat:MatL C z (bs++[zo7 d k Ow]) (ps.map Prod.fst)
 same:(bs++[zo7 d k Ow]).length=ps.length
 count:ps.length≤k+1
 row:NRel (w.heap.size+3) wr ps (.slice a ps.length cp) wr
 out:wr.heap[w.heap.size+2]?=some (.cells #[.int .i64 0,.int .i64 6,.int .i64 m.number,.string ⟨#[]⟩,.string (S.B (zcq 6 [] lo2)),.int .i64 0,.slice a ps.length cp] 118 (0,0))
 below:Below (w.heap.size+2) W3 wr
 size:w.heap.size+3≤wr.heap.size
theorem LMid.after {C:List UInt8→List Rn→Prop} {d:Nat} {m:S.Mark} {w W3:World} {ls:List Ln} {z:Int} {k:Nat} {a:Option Addr} {cp:Nat} {lo lo2:Bool} {Ow:List (List UInt8)} {ps:List (Rn × Value)} {bs:List S.Blk} {x:List UInt8} {wr wy:World} (h:LMid C d m w W3 ls z k a cp lo lo2 Ow ps bs x wr) (hb:Below wr.heap.size wr wy):LMid C d m w W3 ls z k a cp lo lo2 Ow ps bs x wy:=by
 have h1:=h.size
 have h2:=hb.size
 exact ⟨h.at_,h.mat,h.same,h.count,h.row.after hb,(hb.block _ (by omega)).trans h.out,h.below.trans (hb.mono (by omega)),by omega⟩
theorem LMid.loose {C:List UInt8→List Rn→Prop} {d:Nat} {m:S.Mark} {w W3:World} {ls:List Ln} {z:Int} {k:Nat} {a:Option Addr} {cp:Nat} {lo lo2:Bool} {Ow:List (List UInt8)} {ps:List (Rn × Value)} {bs:List S.Blk} {x:List UInt8} {wr:World} (h:LMid C d m w W3 ls z k a cp lo lo2 Ow ps bs x wr):LMid C d m w W3 ls z k a cp lo true Ow ps bs x (wr.setCell ⟨w.heap.size+2,4,none⟩ (.string ⟨#[108,111,111,115,101]⟩)):=by
 refine ⟨h.at_,h.mat,h.same,h.count,h.row.zza (w.heap.size+2) 4 (by omega) _,?_,h.below.setCell (p:=⟨w.heap.size+2,4,none⟩) (Nat.le_refl _) _,by have:=h.size;simpa [World.setCell] using this⟩
 exact za3 (cs:=[.int .i64 0,.int .i64 6,.int .i64 m.number,.string ⟨#[]⟩,.string (S.B (zcq 6 [] lo2)),.int .i64 0,.slice a ps.length cp]) h.out 4 _
theorem LMid.next {C:List UInt8→List Rn→Prop} {d:Nat} {m:S.Mark} {w W3:World} {ls:List Ln} {z:Int} {k:Nat} {a:Option Addr} {cp:Nat} {lo lo2:Bool} {Ow:List (List UInt8)} {ps:List (Rn × Value)} {bs:List S.Blk} {x:List UInt8} {wr:World} (h:LMid C d m w W3 ls z k a cp lo lo2 Ow ps bs x wr)
  (ho:S.zae (S.item x) ((datL ls).drop k)=Ow) {gap:Nat} (hg:S.za5 ((datL ls).drop (k+Ow.length))=gap) (hn:(S.zas m.kind ((datL ls).drop (k+Ow.length+gap))).ok=true) (h1:1≤Ow.length) (hlo:lo2=(lo || (S.za2 d Ow).2 || decide (0<gap))) :
  ∃ y,LRel C d m w W3 ls z (k+Ow.length+gap) ps.length a cp lo2 ps (bs++[zo7 d k Ow]) y wr:=by
 obtain ⟨y,hy⟩:=h.at_.step ho hg hn h1
 rw[← hlo] at hy
 exact ⟨y,rfl,hy,h.mat,h.same,by have:=h.count;omega,h.row,h.out,h.below,h.size⟩
set_option maxRecDepth 100000 in
set_option maxHeartbeats 4000000 in
theorem zwx (C:List UInt8→List Rn→Prop) (d:Nat) (hR:ROK C d):LOK C d:=by
 intro b o cap p0 ts z w m hcap hbw hrow hnum hm hok hd
 obtain ⟨W1,hW1⟩:∃ W1,W1=w.alloc (.cells #[.int .u8 (m.kind.toNat:Int),.int .i64 m.number,.bool m.empty,.int .i64 (m.zaa:Nat)] 150):=⟨_,rfl⟩
 have hs1:W1.heap.size=w.heap.size+1:=by rw[hW1];simp
 have hb1:Below w.heap.size w W1:=by rw[hW1];exact (Below.refl _ _).alloc (Nat.le_refl _) _
 have hx1:W1.heap[w.heap.size]?=some (.cells #[.int .u8 (m.kind.toNat:Int),.int .i64 m.number,.bool m.empty,.int .i64 (m.zaa:Nat)] 150 (0,0)):=by rw[hW1];exact za1 _ _
 obtain ⟨W2,hW2,hb2,hs2,hx2⟩:=zma W1
 obtain ⟨nu,hnu⟩:∃ nu,m.number=nu:=⟨_,rfl⟩
 obtain ⟨W3,hW3⟩:∃ W3,W3=W2.alloc (.cells #[.int .i64 0,.int .i64 6,.int .i64 nu,.string ⟨#[]⟩,.string ⟨#[116,105,103,104,116]⟩,.int .i64 0,.slice none 0 0] 118):=⟨_,rfl⟩
 have hs3:W3.heap.size=w.heap.size+3:=by rw[hW3];simp;omega
 have hb3:Below W2.heap.size W2 W3:=by rw[hW3];exact (Below.refl _ _).alloc (Nat.le_refl _) _
 have hx3:W3.heap[w.heap.size+2]?=some (.cells #[.int .i64 0,.int .i64 6,.int .i64 nu,.string ⟨#[]⟩,.string ⟨#[116,105,103,104,116]⟩,.int .i64 0,.slice none 0 0] 118 (0,0)):=by rw[hW3,show w.heap.size+2=W2.heap.size by omega];exact za1 _ _
 have hbA:Below w.heap.size w W3:=hb1.trans ((hb2.trans (hb3.mono (by omega))).mono (by omega))
 have hlen:=hrow.len
 simp only[List.length_cons] at hlen
 have c1:W2.cell? ⟨w.heap.size,1,none⟩=some (.int .i64 nu):=by rw[← hnu];exact za0 ((hb2.block w.heap.size (by omega)).trans hx1) 1 _ rfl
 have hxk:W3.heap[w.heap.size]?=_:=((hb3.block w.heap.size (by omega)).trans ((hb2.block w.heap.size (by omega)).trans hx1))
 have hxr:W3.heap[w.heap.size+1]?=some (.cells #[.int .i64 0,.int .i64 0,.int .i64 0,.string ⟨#[]⟩,.string ⟨#[]⟩,.int .i64 0,.slice none 0 0] 118 (0,0)):=(hb3.block (w.heap.size+1) (by omega)).trans (by rw[← hs1];exact hx2)
 have hrowH:=hid (hrow.below hbA hbw)
 have hnumH:=hid hnum
 have hRH:=hid hR
 have hdH:=hid hd
 have hmH:=hid hm
 have hokH:=hid hok
 have hnuH:=hid hnu
 have hW1H:=hid hW1
 have hW2H:=hid hW2
 have hW3H:=hid hW3
 have hx3H:=hid hx3
 have hxkH:=hid hxk
 have hxrH:=hid hxr
 have hbAH:=hid hbA
 have hs1H:=hid hs1
 have hs2H:=hid hs2
 have hs3H:=hid hs3
 have hwW2:w.heap.size<W2.heap.size:=by omega
 have hbW3:b<W3.heap.size:=by omega
 clear hrow hnum hR hd hm hok hnu hW1 hW2 hW3 hx3 hxk hxr hbA hs1 hs2 hs3 hb1 hb2 hb3 hx1 hx2
 go_enter Tryz.func98,Tryz.ntmps98
 go_upto_region 1 with fail
 rw[← hW1H.out,← hW2H.out]
 go_upto_region 2 with fail
 rw[← hW3H.out,show W2.heap.size=w.heap.size+2 from by have:=hs1H.out;have:=hs2H.out;omega]
 go_wp2
 go_loopw [7,8,9,10,11,12,13,14,15,16,17] (fun av _ _ _ _ _ _ _ _ _ _ wr=>∃ (k n':Nat) (a:Option Addr) (cp:Nat) (lo:Bool),k<ts.length+1∧av = .int .i64 k∧Hid (∃ ps bs x,LRel C d m w W3 (p0::ts) z k n' a cp lo ps bs x wr)) (fun av _ _ _ _ _ _ _ _ _ _ _=>ts.length+1-(intOf av).toNat)
 case atStart=>
  refine ⟨0,0,none,0,false,by omega,rfl,hid ⟨[],[],p0.1.data.toList,rfl,?_,trivial,rfl,Nat.le_refl _,NRel.start _ _,?_,Below.refl _ _,by rw[hs3H.out];exact Nat.le_refl _⟩⟩
  ·have:=zhl.start d p0.1.data.toList (datL ts) (by rw[hmH.out];exact hokH.out)
   rw[hmH.out] at this
   exact this
  ·rw[hnuH.out];exact hx3H.out
 case round=>
  obtain ⟨k,n',a,cp,lo,hk,rfl,hr⟩:=hrel
  obtain ⟨ps,bs,x,hL⟩:=hr.out
  obtain ⟨p,hp⟩:∃ p,(p0::ts)[k]?=some p:=⟨(p0::ts)[k]'(by simpa using hk),List.getElem?_eq_getElem (by simpa using hk)⟩
  have hxp:p.1.data.toList=x:=by have:=hL.at_.1;rw[zca _ k p hp] at this;exact Option.some.inj this
  have hbr:Below w.heap.size w wr:=hbAH.out.trans (hL.below.mono (by omega))
  have hb3r:b<wr.heap.size:=Nat.lt_of_lt_of_le hbw hbr.size
  have hcA:=(hrowH.out.1 k p hp).1
  have hsz:=hrowH.out.size k p hp
  have hcr:wr.cell? ⟨b,o+k*2,none⟩=some (.string p.1):=(hL.below.cell (p:=⟨b,o+k*2,none⟩) (by show b<w.heap.size+2;omega)).trans hcA
  have hIt:=hid (zio p.1 wr hsz)
  have hJ0:(0:Int)≤(k:Int):=by omega
  have hJ1:(k:Int)<(ts.length:Int)+1:=by omega
  have hLH:=hid hL
  have hpH:=hid hp
  have hxpH:=hid hxp
  have hbrH:=hid hbr
  obtain ⟨s,y⟩:=p
  dsimp only at hcr hIt hsz
  clear hL hp hxp hbr hcA hr
  go_wp2_with fail
  refine hIt.out.mono ?_
  rintro e w6 ⟨ik,inn,ib,img,rfl,hIs,hb6⟩
  obtain ⟨W4,hW4⟩:∃ W4,W4=w6.alloc (.cells #[.int .u8 ik,.int .i64 inn,.bool ib,.int .i64 img] 150):=⟨_,rfl⟩
  have hs4:W4.heap.size=w6.heap.size+1:=by rw[hW4];simp
  have hb4:Below w6.heap.size w6 W4:=by rw[hW4];exact (Below.refl _ _).alloc (Nat.le_refl _) _
  have hx4:W4.heap[w6.heap.size]?=some (.cells #[.int .u8 ik,.int .i64 inn,.bool ib,.int .i64 img] 150 (0,0)):=by rw[hW4];exact za1 _ _
  have hbr4:Below wr.heap.size wr W4:=hb6.trans (hb4.mono hb6.size)
  have hW4H:=hid hW4
  clear hW4
  go_upto_region 4 with fail
  rw[← hW4H.out]
  obtain ⟨M,hM⟩:∃ M,S.item x=M:=⟨_,rfl⟩
  have hx9:s.data.toList=x:=hxpH.out
  have hMok:M.ok=true:=by rw[← hM];exact hLH.out.at_.2.1
  obtain ⟨e1,e2,e3,e4⟩:ik=(M.kind.toNat:Int)∧inn=M.number∧ib=M.empty∧img=(M.zaa:Int):=by
   have:=hIs.out (by rw[hx9,hM];exact hMok)
   rw[hx9,hM] at this;exact this
  have hin:k<(p0::ts).length:=by simpa using hk
  have hdrop:(p0::ts).drop k=(s,y)::(p0::ts).drop (k+1):=by
   rw[List.drop_eq_getElem_cons hin]
   congr 1
   have:=hpH.out
   rw[List.getElem?_eq_getElem hin] at this
   exact Option.some.inj this
  obtain ⟨us,hus⟩:∃ us,(p0::ts).drop (k+1)=us:=⟨_,rfl⟩
  rw[hus] at hdrop
  have hl1:us.length+1=ts.length+1-k:=by rw[← hus,List.length_drop,List.length_cons];omega
  have hdd:datL (((s,y):Ln)::us)=(datL (p0::ts)).drop k:=by rw[← hdrop,zm8]
  obtain ⟨Ow,hOw⟩:∃ Ow,S.zae M (datL (((s,y):Ln)::us))=Ow:=⟨_,rfl⟩
  have hOwA:Hid (S.zae (S.item x) ((datL (p0::ts)).drop k)=Ow):=hid (by rw[← hdd,hM];exact hOw)
  obtain ⟨g,hg⟩:∃ g,(S.za2 d Ow).2=g:=⟨_,rfl⟩
  have hLl:1≤Ow.length∧k+Ow.length≤ts.length+1:=by
   have:=zke M s.data.toList (datL us)
   have e:S.zae M (s.data.toList::datL us)=Ow:=hOw
   rw[e,zaq] at this
   omega
  have hyz:y=z+(k:Int):=hnumH.out k (s,y) hpH.out
  have hrow4:∀ wx,After W4 wx→RowL wx b (o+k*2) (((s,y):Ln)::us)∧b<wx.heap.size∧wx.heap[w6.heap.size]?=some (.cells #[.int .u8 ik,.int .i64 inn,.bool ib,.int .i64 img] 150 (0,0)):=fun wx hx=>by
   have h1:=hbrH.out.trans (hbr4.mono hbrH.out.size)
   have h2:=h1.trans (Below.mono hx h1.size)
   have h3:=((hrowH.out.below (hLH.out.below.trans ((hbr4.trans (Below.mono hx hbr4.size)).mono (by have:=hLH.out.size;omega))) (by omega)).drop k)
   rw[hdrop] at h3
   exact ⟨h3,Nat.lt_of_lt_of_le hbw h2.size,(hx.block _ (by omega)).trans hx4⟩
  have hOne:Hid (∀ wx,After W4 wx→Calls Tryz.prog 142 #[.slice (some ⟨b,o+k*2,none⟩) (ts.length+1-k) (cap-k),.agg #[.int .u8 ik,.int .i64 inn,.bool ib,.int .i64 img]] wx fun e w3=>∃ ka kn kc ns,e = .returned (.tuple #[.agg #[.int .i64 0,.int .i64 7,.int .i64 0,.string ⟨#[]⟩,.string ⟨#[]⟩,.int .i64 y,.slice ka kn kc],.int .i64 (Ow.length:Nat),.bool g])∧(w3.cell? ⟨w6.heap.size,0,none⟩=some (.int .u8 ik)∧w3.cell? ⟨w6.heap.size,1,none⟩=some (.int .i64 inn)∧w3.cell? ⟨w6.heap.size,2,none⟩=some (.bool ib)∧w3.cell? ⟨w6.heap.size,3,none⟩=some (.int .i64 img))∧w6.heap.size<w3.heap.size∧W4.heap.size≤w3.heap.size∧wx.heap.size≤w3.heap.size∧Hid (RepN w3 (fun q=>wx.heap.size≤q∧q<w3.heap.size) (.slice ka kn kc) ns∧MatL C (z+(k:Int)) (S.za2 d Ow).1 ns∧Below wx.heap.size wx w3)):=hid (fun wx hx=>by
   obtain ⟨h1,h2,h3⟩:=hrow4 wx hx
   have hn2:=hnumH.out.drop k
   rw[hdrop] at hn2
   have hc:=zy0 C d hRH.out b (o+k*2) (cap-k) ((s,y):Ln) us (z+(k:Int)) wx ik inn h1 hn2 h2 (by omega) M (by rw[← hM,← hx9]) hMok (by
    rw[hdd]
    have:=zh7 (datL (p0::ts)) k
    have:=hdH.out
    omega)
   rw[hl1,hOw,hg,← e3,← e4] at hc
   refine hc.mono ?_
   rintro e w3 ⟨kv,ns,rfl,hrep,hM9,hb3⟩
   obtain ⟨ka,kn,kc,rfl⟩:=hrep.form
   have h4:=hx.trans (hb3.mono hx.size)
   have h5:=(hrow4 w3 h4).2.2
   have h6:=h4.size
   exact ⟨ka,kn,kc,ns,by rw[hyz];rfl,⟨za0 h5 0 _ rfl,za0 h5 1 _ rfl,za0 h5 2 _ rfl,za0 h5 3 _ rfl⟩,by omega,h6,hb3.size,hid ⟨hrep,hM9.out,hb3⟩⟩)
  have x0:W4.cell? ⟨w6.heap.size,0,none⟩=some (.int .u8 ik):=za0 hx4 0 _ rfl
  have x1:W4.cell? ⟨w6.heap.size,1,none⟩=some (.int .i64 inn):=za0 hx4 1 _ rfl
  have x2:W4.cell? ⟨w6.heap.size,2,none⟩=some (.bool ib):=za0 hx4 2 _ rfl
  have x3:W4.cell? ⟨w6.heap.size,3,none⟩=some (.int .i64 img):=za0 hx4 3 _ rfl
  have hJ7:(k:Int)≤(ts.length:Int)+1:=by omega
  have hJ8:(k:Int)≤(cap:Int):=by omega
  have hne:¬ cap=k:=by omega
  have hWl:w6.heap.size<W4.heap.size:=by omega
  have hn1:¬ W4.heap.size=w6.heap.size:=by omega
  have hn2:¬ w6.heap.size=W4.heap.size:=by omega
  have hs4H:=hid hs4
  have hbr4H:=hid hbr4
  have hl1H:=hid hl1
  have hdropH:=hid hdrop
  have hddH:=hid hdd
  have hgH:=hid hg
  have hyzH:=hid hyz
  clear hs4 hb4 hx4 hbr4 hrow4 hdd hdrop hl1 hus hOw hg hyz e1 e2 e3 e4 hM hx9 hIs hb6 hIt hcr hin
  go_cut [10,11,12] (fun s10 s11 s12 wx=>∃ (pb:Nat) (ka:Option Addr) (kn kc:Nat) (ns:List Rn),s10 = .pointer (some ⟨pb,0,none⟩)∧s11 = .int .i64 (Ow.length:Nat)∧s12 = .bool g∧Hid (OMid W4 pb y ka kn kc ns wx∧MatL C (z+(k:Int)) (S.za2 d Ow).1 ns))
  case first=>
   go_region_held3 (fun w'=>w'.cell? ⟨w6.heap.size,0,none⟩=some (.int .u8 ik)∧w'.cell? ⟨w6.heap.size,1,none⟩=some (.int .i64 inn)∧w'.cell? ⟨w6.heap.size,2,none⟩=some (.bool ib)∧w'.cell? ⟨w6.heap.size,3,none⟩=some (.int .i64 img))
    ((refine ⟨?_,?_,?_,?_⟩ <;> (first|with_reducible assumption|go_keep)))
    ((go_at_call 142;refine (hOne.out _ (by repeat (first|exact Below.refl _ _|refine Below.drew ?_|refine Below.alloc ?_ (by simp) _))).mono ?_;rintro e w3 ⟨ka,kn,kc,ns,rfl,⟨y0,y1,y2,y3⟩,hz3,hz4,hz5,hU⟩;obtain ⟨hc3,hf3⟩:=zmj hU.out.2.2;have hn3:¬ w3.heap.size=w6.heap.size:=(by omega)))
   all_goals (go_wp2_with fail;go_meet)
   ·exact ⟨_,ka,kn,kc,ns,rfl,rfl,rfl,hid ⟨z1f (by repeat (first|exact Below.refl _ _|refine Below.drew ?_|refine Below.alloc ?_ (by simp) _)) hU.out.1 hU.out.2.2,hU.out.2.1⟩⟩
   ·exact ⟨_,ka,kn,kc,ns,rfl,rfl,rfl,hid ⟨z1d (by repeat (first|exact Below.refl _ _|refine Below.drew ?_|refine Below.alloc ?_ (by simp) _)) (by simp) (by exact za1 _ _) hU.out.1 hU.out.2.2,hU.out.2.1⟩⟩
  case rest=>
  obtain ⟨pb,ka,kn,kc,ns,rfl,rfl,rfl,hmid⟩:=hcut
  clear x0 x1 x2 x3 hOne hW4H
  have hn':=hLH.out.num
  subst hn'
  have hO:=hmid.out.1
  have hplc:pb<wc.heap.size:=(Array.getElem?_eq_some_iff.1 hO.blk).1
  have hbWc:Below wr.heap.size wr wc:=hbr4H.out.trans (hO.below.mono hbr4H.out.size)
  have hszr:=hLH.out.size
  have hszc:wr.heap.size≤wc.heap.size:=hbWc.size
  have hout:=(hbWc.block (w.heap.size+2) (by omega)).trans hLH.out.out
  have c6:wc.cell? ⟨w.heap.size+2,6,none⟩=some (.slice a ps.length cp):=za0 hout 6 _ rfl
  have q0:wc.cell? ⟨pb,0,none⟩=some (.int .i64 0):=za0 hO.blk 0 _ rfl
  have q1:wc.cell? ⟨pb,1,none⟩=some (.int .i64 7):=za0 hO.blk 1 _ rfl
  have q2:wc.cell? ⟨pb,2,none⟩=some (.int .i64 0):=za0 hO.blk 2 _ rfl
  have q3:wc.cell? ⟨pb,3,none⟩=some (.string ⟨#[]⟩):=za0 hO.blk 3 _ rfl
  have q4:wc.cell? ⟨pb,4,none⟩=some (.string ⟨#[]⟩):=za0 hO.blk 4 _ rfl
  have q5:wc.cell? ⟨pb,5,none⟩=some (.int .i64 y):=za0 hO.blk 5 _ rfl
  have q6:wc.cell? ⟨pb,6,none⟩=some (.slice ka kn kc):=za0 hO.blk 6 _ rfl
  obtain ⟨i0,hi',hi0,hi1,hi2⟩:=info_parts Tryz.zla
  have hcnt:ps.length+1≤1000001:=by have:=hLH.out.count;omega
  have hown2:Hid (∀ ob,(wc.alloc ob).ownsRow (w.heap.size+3) 118 7 (.slice a ps.length cp) ps.length (zc6 ps)):=hid (fun ob=>(hLH.out.row.own.kept (Below.zgu hbWc) (by
   cases h:(Value.slice a ps.length cp).ownBlock with
   | none=>exact .inl rfl
   | some g=>exact .inr (by simp))).alloc ob)
  have hnew:Hid (∀ j v,([.int .i64 0,.int .i64 7,.int .i64 0,.string ⟨#[]⟩,.string ⟨#[]⟩,.int .i64 y,.slice ka kn kc]:List Value)[j]?=some v→(wc.alloc (.cells #[.int .i64 0,.int .i64 7,.int .i64 0,.string ⟨#[]⟩,.string ⟨#[]⟩,.int .i64 y,.slice ka kn kc] 118)).cell? ((⟨wc.heap.size,0,none⟩:Addr).add j)=some v):=hid (fun j v hj=>World.news_of_block (za1 _ _) j v (by exact hj))
  have hone:Hid (∀ v∈([.int .i64 0,.int .i64 7,.int .i64 0,.string ⟨#[]⟩,.string ⟨#[]⟩,.int .i64 y,.slice ka kn kc]:List Value),v.oneCell'=true):=hid (by
   intro v hv;simp at hv;rcases hv with rfl|rfl|rfl|rfl|rfl|rfl|rfl <;> rfl)
  have hstep:Hid (∀ ob g' cap1 w2,w2.ownsRow (w.heap.size+3) 118 7 (.slice (some ⟨g',0,none⟩) (ps.length+1) cap1) (ps.length+1) (zc6 ps++[.int .i64 0,.int .i64 7,.int .i64 0,.string ⟨#[]⟩,.string ⟨#[]⟩,.int .i64 y,.slice ka kn kc])→(wc.alloc ob).grownBy w2 (Value.slice a ps.length cp).ownBlock→((Value.slice a ps.length cp).ownBlock=some g'∨wc.heap.size≤g')→w2.heap[w.heap.size+2]?=some (.cells #[.int .i64 0,.int .i64 6,.int .i64 m.number,.string ⟨#[]⟩,.string (S.B (zcq 6 [] lo)),.int .i64 0,.slice a ps.length cp] 118 (0,0))∧∃ qs:List (Rn × Value),qs.length=ps.length+1∧LMid C d m w W3 (p0::ts) z k (some ⟨g',0,none⟩) cap1 lo lo Ow qs bs x (w2.setCell ⟨w.heap.size+2,6,none⟩ (.slice (some ⟨g',0,none⟩) (ps.length+1) cap1))):=hid (fun ob g' cap1 w2 ho hgw hat=>by
   have hbX:Below wc.heap.size wc (wc.alloc ob):=(Below.refl _ _).alloc (Nat.le_refl _) _
   have hN:=hLH.out.row.step (t:=.nd 7 0 [] [] y ns) (kv:=.slice ka kn kc) hszr hbWc (hO.rep.move (fun q hq=>⟨Nat.le_trans hbr4H.out.size hq.1,hq.2⟩) (fun _ _=>rfl)) ho hbX hgw hat
   have hx2:w2.heap[w.heap.size+2]?=_:=(hgw.block (w.heap.size+2) (by have:=hbX.size;omega) (fun e=>by have:=hLH.out.row.own.lt _ e.symm;omega)).trans ((hbX.block (w.heap.size+2) (by omega)).trans hout)
   refine ⟨hx2,ps++[(.nd 7 0 [] [] y ns,.slice ka kn kc)],by simp,hLH.out.at_,?_,by simp[hLH.out.same],by have:=hLH.out.count;simp;omega,?_,?_,?_,?_⟩
   ·rw[List.map_append]
    refine hLH.out.mat.append ?_
    simp only[List.map_cons,List.map_nil,MatL,and_true,zo7,MatB]
    refine ⟨trivial,trivial,trivial,by first|trivial|rfl,hyzH.out,?_⟩
    rw[if_neg (by omega)]
    exact hmid.out.2
   ·exact hN.zza (w.heap.size+2) 6 (by omega) _
   ·rw[List.length_append]
    exact za3 (cs:=[.int .i64 0,.int .i64 6,.int .i64 m.number,.string ⟨#[]⟩,.string (S.B (zcq 6 [] lo)),.int .i64 0,.slice a ps.length cp]) hx2 6 _
   ·exact (hLH.out.below.trans (hN.below.mono (by omega))).setCell (p:=⟨w.heap.size+2,6,none⟩) (Nat.le_refl _) _
   ·have h1:=hN.below.size
    have h2:(w2.setCell ⟨w.heap.size+2,6,none⟩ (.slice (some ⟨g',0,none⟩) (ps.length+1) cap1)).heap.size=w2.heap.size:=by simp[World.setCell]
    omega)
  have hwcl:w.heap.size+3≤wc.heap.size:=by omega
  have hoL:w.heap.size+2<wc.heap.size:=by omega
  obtain ⟨K,hK⟩:∃ K,k+Ow.length=K:=⟨_,rfl⟩
  have hKi:IntKind.i64.wrap ((k:Int)+(Ow.length:Int))=(K:Int):=by rw[IntKind.wrap_i64];omega
  have hKi2:(k:Int)+(Ow.length:Int)=(K:Int):=by omega
  have hKl:K≤ts.length+1:=by omega
  have hKH:=hid hK
  have hLlH:=hid hLl
  clear hK hO hbWc hout hLl hbr4H hmid
  go_wp2_with (at_builtin;refine wpList_append_lies _ (by rfl) _ _ 80 (by rfl) (w.heap.size+3) 118 i0 (.agg #[.int .i64 0,.int .i64 0,.int .i64 0,.string ⟨#[]⟩,.string ⟨#[]⟩,.int .i64 0,.slice none 0 0]) 7 88 Tryz.underlying80 hi' hi0 hi1 hi2 (by rfl) (by omega) (.slice a ps.length cp) ps.length (zc6 ps) (by rfl) (hown2.out _) ⟨wc.heap.size,0,none⟩ 1 1 [.int .i64 0,.int .i64 7,.int .i64 0,.string ⟨#[]⟩,.string ⟨#[]⟩,.int .i64 y,.slice ka kn kc] (by rfl) (by rfl) hnew.out hone.out (by omega) (by unfold maxLen;omega) (by omega) (by simp;omega) (wc.heap.size+1) (by simp) ?_)
  intro g' cap1 w2 hown1 hgrow hat hltg
  obtain ⟨hx2,qs,hqs,hLM⟩:=hstep.out _ g' cap1 w2 hown1 hgrow (by rcases hat with h|h;exact .inl h;exact .inr (by omega))
  have d6:w2.cell? ⟨w.heap.size+2,6,none⟩=some (.slice a ps.length cp):=za0 hx2 6 _ rfl
  have g6:=za7 hx2
  obtain ⟨W5,hW5⟩:∃ W5,W5=w2.setCell ⟨w.heap.size+2,6,none⟩ (.slice (some ⟨g',0,none⟩) (ps.length+1) cap1):=⟨_,rfl⟩
  rw[← hW5] at hLM
  have hLMH:=hid hLM
  have hW5H:=hid hW5
  have hqsH:=hid hqs
  clear hown1 hgrow hat hltg hLM hW5 hqs hx2 hstep hnew hone hown2
  go_upto_region 6 with fail
  rw[← hW5H.out]
  clear d6 g6 c6 q0 q1 q2 q3 q4 q5 q6 hW5H hi' hi0 hi1 hi2
  have hb5:Below w.heap.size w W5:=hbAH.out.trans (hLMH.out.below.mono (by omega))
  have hbW5:b<W5.heap.size:=Nat.lt_of_lt_of_le hbw hb5.size
  have hs5:w.heap.size+3≤W5.heap.size:=hLMH.out.size
  have hrow5:Hid (RowL W5 b o (p0::ts)):=hid (hrowH.out.below hLMH.out.below (by omega))
  have hb5H:=hid hb5
  clear hb5
  go_upto_region 8 with fail
  go_loop [13] (fun nv=>∃ i:Nat,K+i≤ts.length+1∧nv = .int .i64 ((K:Int)+(i:Int))∧Hid (∀ j,j<i→(((datL (p0::ts)).drop K)[j]?.map S.blank)=some true)) (fun nv=>ts.length+1-(intOf nv).toNat)
  case atStart=>exact ⟨0,by omega,by first|rfl|simp,hid (by intro j hj;omega)⟩
  case round=>
  obtain ⟨i,hi,rfl,hall⟩:=hrel
  have hJ2:(0:Int)≤(K:Int)+(i:Int):=by omega
  have hton:((K:Int)+(i:Int)).toNat=K+i:=by omega
  by_cases hblk:(((datL (p0::ts)).drop K)[i]?.map S.blank)=some true
  ·rw[List.getElem?_drop] at hblk
   obtain ⟨p,hp⟩:∃ p,(p0::ts)[K+i]?=some p:=by
    cases hp:(p0::ts)[K+i]? with
    | none=>
     have:(datL (p0::ts))[K+i]?=none:=by
      rw[List.getElem?_eq_none_iff] at hp ⊢;rw[zaq];exact hp
     rw[this] at hblk;simp at hblk
    | some p=>exact ⟨p,rfl⟩
   have hlt:=(List.getElem?_eq_some_iff.1 hp).1
   simp only[List.length_cons] at hlt
   rw[zca _ _ p hp,Option.map_some] at hblk
   have hbl:=Option.some.inj hblk
   have hcA:=(hrow5.out.1 (K+i) p hp).1
   have hsz:=hrow5.out.size (K+i) p hp
   have hBl:=zc1 p.1 W5 hsz
   rw[hbl] at hBl
   have hBH:Hid (Calls Tryz.prog 67 #[.string p.1] W5 fun e w'=>e = .returned (.bool true)∧W5=w'):=hid (hBl.mono (fun e w' ⟨h1,h2⟩=>⟨h1,h2.symm⟩))
   have hall':Hid (∀ j,j<i+1→(((datL (p0::ts)).drop K)[j]?.map S.blank)=some true):=hid (by
    intro j hj
    by_cases e:j=i
    ·subst e;rw[List.getElem?_drop,zca _ _ p hp,Option.map_some,hbl]
    ·exact hall.out j (by omega))
   obtain ⟨s9,y9⟩:=p
   dsimp only at hcA hsz hBH
   have hJ3:(K:Int)+(i:Int)<(ts.length:Int)+1:=by omega
   clear hp hblk hbl hBl
   go_wp2_with fail
   refine hBH.out.mono ?_
   rintro e w' ⟨rfl,rfl⟩
   go_wp2
   exact ⟨⟨i+1,by omega,by go_num,hall'⟩,by simp[intOf];omega⟩
  have hcb:Hid (S.za5 ((datL (p0::ts)).drop K)=i):=hid (S.ze2 _ i hall.out hblk)
  have hblkH:=hid hblk
  clear hblk hall
  go_upto_region 8 with fail
  go_cut [61] (fun s61 wx=>s61 = .bool false∧W5=wx)
  case first=>
   by_cases hlt:K+i<ts.length+1
   ·have hlt2:K+i<(p0::ts).length:=by simpa using hlt
    obtain ⟨p,hp⟩:∃ p,(p0::ts)[K+i]?=some p:=⟨(p0::ts)[K+i],List.getElem?_eq_getElem hlt2⟩
    have hcA:=(hrow5.out.1 (K+i) p hp).1
    have hsz:=hrow5.out.size (K+i) p hp
    have hBl:=zc1 p.1 W5 hsz
    have hbl:S.blank p.1.data.toList=false:=by
     have:=hblkH.out
     rw[List.getElem?_drop,zca _ _ p hp,Option.map_some] at this
     cases h:S.blank p.1.data.toList with
     | false=>rfl
     | true=>rw[h] at this;exact absurd rfl this
    rw[hbl] at hBl
    have hBH:Hid (Calls Tryz.prog 67 #[.string p.1] W5 fun e w'=>e = .returned (.bool false)∧W5=w'):=hid (hBl.mono (fun e w' ⟨h1,h2⟩=>⟨h1,h2.symm⟩))
    obtain ⟨s9,y9⟩:=p
    dsimp only at hcA hsz hBH
    have hJ3:(K:Int)+(i:Int)<(ts.length:Int)+1:=by omega
    clear hp hbl hBl
    go_wp2_with fail
    refine hBH.out.mono ?_
    rintro e w' ⟨rfl,rfl⟩
    go_wp2
    go_meet
    exact ⟨rfl,rfl⟩
   ·have hJ3:¬ (K:Int)+(i:Int)<(ts.length:Int)+1:=by omega
    go_wp2
    go_meet
    exact ⟨rfl,rfl⟩
  case rest=>
  obtain ⟨rfl,rfl⟩:=hcut
  obtain ⟨go2,hgo2⟩:∃ go2,(S.zas m.kind ((datL (p0::ts)).drop (K+i))).ok=go2:=⟨_,rfl⟩
  obtain ⟨go1,hgo1⟩:∃ go1,decide ((K:Int)+(i:Int)<(ts.length:Int)+1)=go1:=⟨_,rfl⟩
  have hgo1H:=hid hgo1
  have hgo2H:=hid hgo2
  clear hgo2
  have hxm5:Hid (W5.heap[w.heap.size]?=some (.cells #[.int .u8 (m.kind.toNat:Int),.int .i64 m.number,.bool m.empty,.int .i64 (m.zaa:Nat)] 150 (0,0))):=hid ((hLMH.out.below.block w.heap.size (by omega)).trans hxkH.out)
  go_upto_if 68 with fail
  go_cut [14] (fun s14 wx=>s14 = .bool go2∧Hid (Below W5.heap.size W5 wx))
  case first=>
   cases go1
   ·have he:Hid (go2=false):=hid (by
     have h1:=of_decide_eq_false hgo1H.out
     rw[← hgo2H.out,List.drop_eq_nil_of_le (by rw[zaq,List.length_cons];omega)]
     rfl)
    go_wp2
    go_meet
    exact ⟨by rw[he.out],hid (Below.refl _ _)⟩
   ·have hlt:K+i<ts.length+1:=by have:=of_decide_eq_true hgo1H.out;omega
    have hlt2:K+i<(p0::ts).length:=by simpa using hlt
    obtain ⟨p,hp⟩:∃ p,(p0::ts)[K+i]?=some p:=⟨(p0::ts)[K+i],List.getElem?_eq_getElem hlt2⟩
    have hcA:=(hrow5.out.1 (K+i) p hp).1
    have hsz:=hrow5.out.size (K+i) p hp
    have hdr:(datL (p0::ts)).drop (K+i)=p.1.data.toList::(datL (p0::ts)).drop (K+i+1):=by
     have h1:=zca _ _ p hp
     obtain ⟨h2,h3⟩:=List.getElem?_eq_some_iff.1 h1
     rw[List.drop_eq_getElem_cons h2,h3]
    obtain ⟨ru,hru⟩:∃ ru,S.zbu p.1.data.toList=ru:=⟨_,rfl⟩
    obtain ⟨iok,hiok⟩:∃ iok,(S.item p.1.data.toList).ok=iok:=⟨_,rfl⟩
    have hgo:Hid (go2=if ru=true then false else (iok && decide ((S.item p.1.data.toList).kind=m.kind))):=hid (by
     rw[← hgo2H.out,hdr]
     simp only[S.zas]
     rw[hru]
     split
     ·rfl
     ·rw[← hiok])
    have hIt2:Hid (Calls Tryz.prog 93 #[.string p.1] W5 fun e w'=>∃ (k n:Int) (b:Bool) (mg:Int),e = .returned (.tuple #[.agg #[.int .u8 k,.int .i64 n,.bool b,.int .i64 mg],.bool iok])∧Hid (zz8 p.1.data.toList k n b mg)∧Below W5.heap.size W5 w'):=hid ((zio p.1 W5 hsz).mono (by
     rintro e w' ⟨k,n,b,mg,rfl,h2,h3⟩
     exact ⟨k,n,b,mg,by rw[hiok],h2,h3⟩))
    have hRu:Hid (∀ wx,Calls Tryz.prog 89 #[.string p.1] wx fun e w'=>e = .returned (.bool ru)∧wx=w'):=hid (fun wx=>by
     have:=zks p.1 wx hsz
     rw[hru] at this
     exact this.mono (fun e w' ⟨h1,h2⟩=>⟨h1,h2.symm⟩))
    have hiokH:=hid hiok
    obtain ⟨s9,y9⟩:=p
    dsimp only at hcA hsz hIt2 hRu hgo hiokH
    have hJ3:(K:Int)+(i:Int)<(ts.length:Int)+1:=by omega
    clear hp hdr hru hiok hlt hlt2
    go_wp2_with fail
    refine hIt2.out.mono ?_
    rintro e w7 ⟨ik2,in2,ib2,im2,rfl,hIs2,hb7⟩
    obtain ⟨W8,hW8⟩:∃ W8,W8=w7.alloc (.cells #[.int .u8 ik2,.int .i64 in2,.bool ib2,.int .i64 im2] 150):=⟨_,rfl⟩
    have hs8:W8.heap.size=w7.heap.size+1:=by rw[hW8];simp
    have hb78:Below w7.heap.size w7 W8:=by rw[hW8];exact (Below.refl _ _).alloc (Nat.le_refl _) _
    have hx8:W8.heap[w7.heap.size]?=some (.cells #[.int .u8 ik2,.int .i64 in2,.bool ib2,.int .i64 im2] 150 (0,0)):=by rw[hW8];exact za1 _ _
    have hb58:Below W5.heap.size W5 W8:=hb7.trans (hb78.mono hb7.size)
    have hc8:W8.cell? ⟨b,o+(K+i)*2,none⟩=some (.string s9):=(hb58.cell (p:=⟨b,o+(K+i)*2,none⟩) hbW5).trans hcA
    have k1:W8.cell? ⟨w7.heap.size,0,none⟩=some (.int .u8 ik2):=za0 hx8 0 _ rfl
    have k2:W8.cell? ⟨w.heap.size,0,none⟩=some (.int .u8 (m.kind.toNat:Int)):=za0 ((hb58.block w.heap.size (by omega)).trans hxm5.out) 0 _ rfl
    have hl7:w7.heap.size<W8.heap.size:=by omega
    have hlw:w.heap.size<W8.heap.size:=by have:=hb58.size;omega
    have hW8H:=hid hW8
    have hb58H:=hid hb58
    clear hW8 hs8 hb78 hx8 hb58 hb7 hcA
    go_upto_region 13 with fail
    rw[← hW8H.out]
    go_wp2_with fail
    refine (hRu.out _).mono ?_
    rintro e w' ⟨rfl,rfl⟩
    cases iok
    ·have he:Hid (go2=false):=hid (by rw[hgo.out];cases ru <;> rfl)
     go_wp2
     go_meet
     exact ⟨by rw[he.out],hb58H⟩
    ·obtain ⟨kq,hkq⟩:∃ kq,decide ((S.item s9.data.toList).kind=m.kind)=kq:=⟨_,rfl⟩
     have hik:ik2=((S.item s9.data.toList).kind.toNat:Int):=(hIs2.out hiokH.out).1
     have e1:((ik2:Int) == (m.kind.toNat:Int))=kq:=by
      rw[← hkq,Bool.eq_iff_iff,beq_iff_eq,decide_eq_true_iff,hik,← UInt8.toNat_inj];omega
     have hgoH:Hid (go2=(kq && !ru)):=hid (by rw[hgo.out,← hkq];cases ru <;> simp)
     clear hkq hik hgo hIs2
     cases kq
     ·have he:Hid (go2=false):=hid (by rw[hgoH.out];rfl)
      go_wp2
      go_meet
      exact ⟨by rw[he.out],hb58H⟩
     ·have he:Hid (go2 = !ru):=hid (by rw[hgoH.out];rfl)
      go_wp2
      go_meet
      exact ⟨by rw[he.out],hb58H⟩
  case rest=>
  obtain ⟨rfl,hbc⟩:=hcut
  have hLM2:=hid (hLMH.out.after hbc.out)
  obtain ⟨lb,hlb⟩:∃ lb:Bool,(g || (go2 && decide (0<i)))=lb:=⟨_,rfl⟩
  have hlbH:=hid hlb
  clear hlb hgo1 hbc hrow5
  go_upto_region 15 with fail
  go_cut [104] (fun s104 wx=>s104 = .bool lb∧wc=wx)
  case first=>
   cases g
   ·cases go2
    ·have he:Hid (lb=false):=hid (by rw[← hlbH.out];rfl)
     go_wp2
     go_meet
     exact ⟨by rw[he.out],rfl⟩
    ·by_cases h1:0<i
     ·have h1':(K:Int)<(K:Int)+(i:Int):=by omega
      have h1'':(0:Int)<(i:Int):=by omega
      have he:Hid (lb=true):=hid (by rw[← hlbH.out,decide_eq_true h1];rfl)
      go_wp2
      go_meet
      exact ⟨by rw[he.out],rfl⟩
     ·have h1':¬ (K:Int)<(K:Int)+(i:Int):=by omega
      have h1'':¬ (0:Int)<(i:Int):=by omega
      have he:Hid (lb=false):=hid (by rw[← hlbH.out,decide_eq_false h1];rfl)
      go_wp2
      go_meet
      exact ⟨by rw[he.out],rfl⟩
   ·have he:Hid (lb=true):=hid (by rw[← hlbH.out];rfl)
    go_wp2
    go_meet
    exact ⟨by rw[he.out],rfl⟩
  case rest=>
  obtain ⟨rfl,rfl⟩:=hcut
  go_upto_if 104 with fail
  go_cut [14] (fun s14 wx=>s14 = .bool go2∧Hid (LMid C d m w W3 (p0::ts) z k (some ⟨g',0,none⟩) cap1 lo (lo || lb) Ow qs bs x wx))
  case first=>
   cases lb
   ·go_wp2
    go_meet
    exact ⟨rfl,hid (by rw[Bool.or_false];exact hLM2.out)⟩
   ·have d4:wc.cell? ⟨w.heap.size+2,4,none⟩=some (.string (S.B (zcq 6 [] lo))):=za0 hLM2.out.out 4 _ rfl
    have g4:=za7 hLM2.out.out
    have hlc:w.heap.size+2<wc.heap.size:=by have:=hLM2.out.size;omega
    go_wp2
    go_meet
    exact ⟨rfl,hid (by rw[Bool.or_true];exact hLM2.out.loose)⟩
  case rest=>
  obtain ⟨rfl,hL3⟩:=hcut
  have hin9:Hid (go2=true→K+i<ts.length+1):=hid (fun h=>by
   have h1:=S.zlg _ _ (hgo2H.out.trans h)
   rw[List.length_drop,zaq,List.length_cons] at h1
   omega)
  clear hLM2 hLMH
  cases go2
  ·have hE:=hid (hL3.out.at_.last hOwA.out (gap:=i) (by rw[hKH.out];exact hcb.out) (by rw[hKH.out];exact hgo2H.out))
   have hlo:Hid ((lo || lb)=(lo || (S.za2 d Ow).2)):=hid (by rw[← hlbH.out,hgH.out];simp)
   obtain ⟨tx,htx⟩:∃ tx,S.B (zcq 6 [] (lo || lb))=tx:=⟨_,rfl⟩
   have hbL:=hL3.out.below
   have hsL:=hL3.out.size
   have hxo:=hL3.out.out
   rw[htx] at hxo
   have hx1:=(hbL.block (w.heap.size+1) (by omega)).trans hxrH.out
   have e0:=za0 hxo 0 _ rfl
   have e1:=za0 hxo 1 _ rfl
   have e2:=za0 hxo 2 _ rfl
   have e3:=za0 hxo 3 _ rfl
   have e4:=za0 hxo 4 _ rfl
   have e5:=za0 hxo 5 _ rfl
   have e6:=za0 hxo 6 _ rfl
   have d0:=za0 hx1 0 _ rfl
   have d1:=za0 hx1 1 _ rfl
   have d2:=za0 hx1 2 _ rfl
   have d3:=za0 hx1 3 _ rfl
   have d4:=za0 hx1 4 _ rfl
   have d5:=za0 hx1 5 _ rfl
   have d6:=za0 hx1 6 _ rfl
   have g0:=za7 hx1
   have hl1:w.heap.size+1<wc.heap.size:=by omega
   have hl2:w.heap.size+2<wc.heap.size:=by omega
   have hbwc:Below w.heap.size w wc:=hbAH.out.trans (hbL.mono (by omega))
   have hrep:RepN wc (fun x=>w.heap.size+3≤x∧x<wc.heap.size) (.slice (some ⟨g',0,none⟩) qs.length cap1) (qs.map Prod.fst):=zgw hL3.out.row.own (fun g hg=>hL3.out.row.own.lt g hg) (fun i p hi=>(hL3.out.row.kids i p hi).move (fun x hx=>⟨hx.1,hx.2.1⟩) (fun _ _=>rfl))
   have hzz:=hid (set7 hx1 (.int .i64 0) (.int .i64 6) (.int .i64 m.number) (.string ⟨#[]⟩) (.string tx) (.int .i64 0) (.slice (some ⟨g',0,none⟩) qs.length cap1))
   have hbz:=hid (zb7 (N:=w.heap.size+1) hbwc (by omega) (.int .i64 0) (.int .i64 6) (.int .i64 m.number) (.string ⟨#[]⟩) (.string tx) (.int .i64 0) (.slice (some ⟨g',0,none⟩) qs.length cap1))
   have hrz:=hid (zcs hrep (N:=w.heap.size+1) (fun x hx e=>by omega) (.int .i64 0) (.int .i64 6) (.int .i64 m.number) (.string ⟨#[]⟩) (.string tx) (.int .i64 0) (.slice (some ⟨g',0,none⟩) qs.length cap1))
   have hmat:=hid hL3.out.mat
   have htxH:=hid htx
   clear hbL hsL hxo hx1 hbwc hrep htx hL3
   go_wp2
   refine bodyPost_ret (v:=.tuple #[.agg #[.int .i64 0,.int .i64 6,.int .i64 m.number,.string ⟨#[]⟩,.string tx,.int .i64 0,.slice (some ⟨g',0,none⟩) qs.length cap1],.int .i64 (K:Int)]) (by have z0:=za0 hzz.out 0 _ rfl;have z1:=za0 hzz.out 1 _ rfl;have z2:=za0 hzz.out 2 _ rfl;have z3:=za0 hzz.out 3 _ rfl;have z4:=za0 hzz.out 4 _ rfl;have z5:=za0 hzz.out 5 _ rfl;have z6:=za0 hzz.out 6 _ rfl;simp[results,Tryz.results98,go_sem,z0,z1,z2,z3,z4,z5,z6]) rfl ?_
   refine ⟨.slice (some ⟨g',0,none⟩) qs.length cap1,qs.map Prod.fst,?_,hrz.out.move (fun x hx=>⟨by have:=hx.1;omega,by rw[zhb];exact hx.2⟩) (fun _ _=>rfl),hid (by rw[hE.out];exact hmat.out),hbz.out⟩
   rw[hE.out,← htxH.out,hlo.out,hKH.out]
   rfl
  ·have hlo:Hid ((lo || lb)=(lo || (S.za2 d Ow).2 || decide (0<i))):=hid (by rw[← hlbH.out,hgH.out];simp[Bool.or_assoc])
   have hlt:=hin9.out rfl
   have hnext:Hid (∃ y,LRel C d m w W3 (p0::ts) z (K+i) qs.length (some ⟨g',0,none⟩) cap1 (lo || lb) qs (bs++[zo7 d k Ow]) y wc):=hid (by
    have:=hL3.out.next hOwA.out (gap:=i) (by rw[hKH.out];exact hcb.out) (by rw[hKH.out];exact hgo2H.out) hLlH.out.1 hlo.out
    rw[hKH.out] at this
    exact this)
   clear hL3
   go_wp2
   go_roundw
   case rel=>
    obtain ⟨y9,h9⟩:=hnext.out
    exact ⟨K+i,qs.length,some ⟨g',0,none⟩,cap1,lo || lb,hlt,by go_num,hid ⟨qs,_,y9,h9⟩⟩
   case measure=>simp[intOf];have:=hLlH.out;have:=hKH.out;omega
end Go.Proofs.YtlojgpkajkedeaaGreatDoor
