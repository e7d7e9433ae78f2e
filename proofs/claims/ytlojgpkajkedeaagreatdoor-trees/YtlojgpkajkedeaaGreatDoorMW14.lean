import Derived.Test.YtlojgpkajkedeaaGreatDoorMW13
import Derived.Deep.AppendLies
namespace Go.Proofs.YtlojgpkajkedeaaGreatDoor
open Go.RowKit
inductive Rep (w:World) (A:Nat→Prop):Value→List S.Blk→Prop
 | nil:Rep w A (.slice none 0 0) []
 | some (b o cap:Nat) (ts:List S.Blk) (kv:Nat→Value) (ha:A b) (hcap:ts.length≤cap)
   (hc:∀ i t,ts[i]?=some t→w.cell? ⟨b,o+8*i,none⟩=some (.int .i64 t.kind)∧w.cell? ⟨b,o+8*i+1,none⟩=some (.int .i64 t.line)∧(∃ la ln lc,w.cell? ⟨b,o+8*i+2,none⟩=some (.slice la ln lc))∧w.cell? ⟨b,o+8*i+3,none⟩=some (.int .i64 t.n)∧w.cell? ⟨b,o+8*i+4,none⟩=some (.string (S.B t.info))∧w.cell? ⟨b,o+8*i+5,none⟩=some (.string (S.B t.text))∧w.cell? ⟨b,o+8*i+6,none⟩=some (.bool t.loose)∧w.cell? ⟨b,o+8*i+7,none⟩=some (kv i))
   (hk:∀ i t,ts[i]?=some t→Rep w A (kv i) t.kids):Rep w A (.slice (some ⟨b,o,none⟩) ts.length cap) ts
theorem Rep.move {w w':World} {A A':Nat→Prop} {v:Value} {ts:List S.Blk} (h:Rep w A v ts) (hA:∀ b,A b→A' b) (hw:∀ b,A b→w'.heap[b]?=w.heap[b]?):Rep w' A' v ts:=by
 induction h with
 | nil=>exact .nil
 | some b o cap ts kv ha hcap hc hk ih=>
  have key:∀ o,w'.cell? ⟨b,o,none⟩=w.cell? ⟨b,o,none⟩:=fun o=>World.cell?_of_block (a:=⟨b,o,none⟩) (hw b ha)
  refine .some b o cap ts kv (hA b ha) hcap (fun i t hi=>?_) (fun i t hi=>ih i t hi)
  obtain ⟨h0,h1,⟨la,ln,lc,h2⟩,h3,h4,h5,h6,h7⟩:=hc i t hi
  exact ⟨(key _).trans h0,(key _).trans h1,⟨la,ln,lc,(key _).trans h2⟩,(key _).trans h3,(key _).trans h4,(key _).trans h5,(key _).trans h6,(key _).trans h7⟩
theorem Rep.form {w:World} {A:Nat→Prop} {v:Value} {ts:List S.Blk} (h:Rep w A v ts):∃ a n c,v = .slice a n c:=by
 cases h with
 | nil=>exact ⟨_,_,_,rfl⟩
 | some=>exact ⟨_,_,_,rfl⟩
def lenOf:Value→Nat | .slice _ k _=>k|_=>0
def bytes (l:List (List UInt8)):Nat:=(l.map List.length).sum
def zow (d:Nat):Prop:=∀ (b o cap:Nat) (ss:List ByteArray) (w:World),ss.length≤cap→b<w.heap.size→RowS w b o ss→Env w→bytes (dat ss)<d →
 Calls Tryz.prog 64 #[.slice (some ⟨b,o,none⟩) ss.length cap] w fun e w'=>∃ v,e = .returned (.tuple #[v,.bool (S.za2 d (dat ss)).2])∧Rep w' (fun x=>w.heap.size≤x∧x<w'.heap.size) v (S.za2 d (dat ss)).1∧Below w.heap.size w w'
theorem ziv {w:World} {N:Nat} (v0 v1 v2 v3 v4 v5 v6 v7:Value) (b:Nat) (h:b≠N) :
  ((((((((w.setCell ⟨N,0,none⟩ v0).setCell ⟨N,1,none⟩ v1).setCell ⟨N,2,none⟩ v2).setCell ⟨N,3,none⟩ v3).setCell ⟨N,4,none⟩ v4).setCell ⟨N,5,none⟩ v5).setCell ⟨N,6,none⟩ v6).setCell ⟨N,7,none⟩ v7).heap[b]?=w.heap[b]?:=by
 iterate 8 rw[Below.heap_setCell _ _ _ _ (by simpa using h)]
theorem zki {w:World} {N:Nat} (v0 v1 v2 v3 v4 v5 v6 v7:Value) :
  ((((((((w.setCell ⟨N,0,none⟩ v0).setCell ⟨N,1,none⟩ v1).setCell ⟨N,2,none⟩ v2).setCell ⟨N,3,none⟩ v3).setCell ⟨N,4,none⟩ v4).setCell ⟨N,5,none⟩ v5).setCell ⟨N,6,none⟩ v6).setCell ⟨N,7,none⟩ v7).heap.size=w.heap.size:=by
 simp[World.setCell]
theorem zo1 (ss:List ByteArray) (k:Nat):tot (ss.take k)≤tot ss:=by
 induction ss generalizing k with
 | nil=>simp[tot]
 | cons s r ih=>cases k with
  | zero=>simp[tot]
  | succ k=>have:=ih k;simp only[List.take_succ_cons,tot,List.map_cons,List.sum_cons] at *;omega
theorem zij (ss:List ByteArray) (k:Nat) (h:∀ j,j<k→((dat ss)[j]?.map S.zar)=some true):S.zad (dat ss)=((dat ss).take k).map S.zcv++S.zad ((dat ss).drop k):=by
 induction k with
 | zero=>simp
 | succ k ih=>
  have h1:=ih (fun j hj=>h j (by omega))
  have hk:=h k (by omega)
  cases hg:(dat ss)[k]? with
  | none=>rw[hg] at hk;simp at hk
  | some x=>
   rw[hg] at hk;simp at hk
   obtain ⟨hlt,hx⟩:=List.getElem?_eq_some_iff.1 hg
   rw[h1,List.drop_eq_getElem_cons hlt,hx,List.take_add_one,hg]
   simp[S.zad,hk]
set_option maxHeartbeats 4000000 in
theorem zoa (d:Nat) (hR:zow d) (b o cap:Nat) (ss:List ByteArray) (w:World) (hbw:b<w.heap.size) (hrow:RowS w b o ss) (henv:Env w) (hq0:((dat ss)[0]?.map S.zar)=some true) (hd:bytes (S.zad (dat ss))<d) :
  Calls Tryz.prog 120 #[.slice (some ⟨b,o,none⟩) ss.length cap] w fun e w'=>
   ∃ kv,e = .returned (.tuple #[zdl (.mk 5 0 [] [] false (S.za2 d (S.zad (dat ss))).1) kv,.int .i64 ((S.zad (dat ss)).length:Nat)])∧Rep w' (fun x=>w.heap.size≤x∧x<w'.heap.size) kv (S.za2 d (S.zad (dat ss))).1∧Below w.heap.size w w':=by
 have htot:=hrow.2
 have hlen:=hrow.len
 obtain ⟨i0,hi,hz0,hz1,hz2⟩:=info_parts Tryz.zr7
 go_enter Tryz.func120,Tryz.ntmps120
 go_wp2
 obtain ⟨WA,hWA⟩:∃ WA,WA=w.alloc (.cells #[.int .i64 0,.int .i64 0,.slice none 0 0,.int .i64 0,.string ⟨#[]⟩,.string ⟨#[]⟩,.bool false,.slice none 0 0] 110):=⟨_,rfl⟩
 have hsA:WA.heap.size=w.heap.size+1:=by rw[hWA];simp
 have hbA:Below w.heap.size w WA:=by rw[hWA];exact (Below.refl _ w).alloc (Nat.le_refl _) _
 have hx0:WA.heap[w.heap.size]?=some (.cells #[.int .i64 0,.int .i64 0,.slice none 0 0,.int .i64 0,.string ⟨#[]⟩,.string ⟨#[]⟩,.bool false,.slice none 0 0] 110):=by rw[hWA];exact za1 _ _
 rw[← hWA]
 have hsAH:=hid hsA
 have hx0H:=hid hx0
 have hrowA:=hid (hrow.below hbA hbw)
 have henvA:=hid (henv.below hbA)
 have hRH:=hid hR
 have hq0H:=hid hq0
 have hdH:=hid hd
 clear hsA hx0 hWA hR hq0 hd
 go_loopw [4] (fun v wr=>∃ (k:Nat) (os:List ByteArray) (a:Option Addr) (cp:Nat),k≤ss.length∧v = .slice a k cp∧os.length=k∧(∀ j,j<k→((dat ss)[j]?.map S.zar)=some true)∧dat os=((dat ss).take k).map S.zcv∧tot os≤tot (ss.take k)∧wr.ownsRow (w.heap.size+1) 9 1 v k (os.map Value.string)∧Below (w.heap.size+1) WA wr) (fun v _=>ss.length-lenOf v)
 case atStart=>exact ⟨0,[],none,0,Nat.zero_le _,rfl,rfl,by intro j hj;omega,by simp[dat],by simp[tot],World.ownsRow_nil _ _ _ _,Below.refl _ _⟩
 case round=>
  obtain ⟨k,os,a,cp,hk,rfl,hol,hall,hdat,hto,hown,hbel⟩:=hrel
  have hsz:=hbel.size
  have hsA':=hsAH.out
  have hBw:w.heap.size+1≤wr.heap.size:=by omega
  have hbelH:=hid hbel
  have hallH:=hid hall
  have hownH:=hid hown
  have hdatH:=hid hdat
  have holH:=hid hol
  clear hsz hsA' hbel hall hown hdat hol
  by_cases hlt:k<ss.length
  ·obtain ⟨s,hs⟩:∃ s,ss[k]?=some s:=⟨ss[k],List.getElem?_eq_getElem hlt⟩
   have hcell:wr.cell? ⟨b,o+k,none⟩=some (.string s):=(hbelH.out.cell (p:=⟨b,o+k,none⟩) (by show b<_;omega)).trans (hrowA.out.1 k s hs)
   have hsm:s.size≤maxLen:=by have:=zdf _ _ s hs;unfold maxLen;omega
   have hg:(dat ss)[k]?=some s.data.toList:=by rw[zcu,hs];rfl
   cases hq:S.zar s.data.toList
   ·have hk1:1≤k:=by
     rcases Nat.eq_zero_or_pos k with h|h
     ·subst h;have:=hq0H.out;rw[hg,Option.map_some,hq] at this;simp at this
     ·exact h
    have hQ:Hid (S.zad (dat ss)=dat os):=hid (by
     rw[zij ss k hallH.out,hdatH.out]
     obtain ⟨hlt2,hx⟩:=List.getElem?_eq_some_iff.1 hg
     rw[List.drop_eq_getElem_cons hlt2,hx];simp[S.zad,hq])
    obtain ⟨g,cur,ha,hgb,hhg,hkc,htk2⟩:∃ g cur,a=some ⟨g,0,none⟩∧w.heap.size+1≤g∧wr.heap[g]?=some (.cells cur 9 (0,0))∧k≤cp∧cur.toList.take k=os.map Value.string:=by
     rcases hownH.out.2 with ⟨h1,h2⟩|⟨g,cap2,cur,h1,h2,h3,h4,h5,h6,h7⟩
     ·omega
     ·cases h1;exact ⟨g,cur,rfl,h2,h3,h4,by simpa using h7⟩
    subst ha
    have hrowO:RowS wr g 0 os:=by
     refine ⟨fun i s hi=>?_,Nat.le_trans hto (Nat.le_trans (Nat.le_trans (zo1 ss k) (Nat.le_refl _)) htot)⟩
     have hc:cur[i]?=some (.string s):=by
      have h1:(os.map Value.string)[i]?=some (.string s):=by rw[List.getElem?_map,hi];rfl
      rw[← htk2] at h1
      have hik:i<k:=by have:=(List.getElem?_eq_some_iff.1 h1).1;rw[List.length_take] at this;omega
      rw[List.getElem?_take_of_lt hik] at h1;simpa using h1
     rw[Nat.zero_add];exact za0 hhg i _ hc
    have hgl:g<wr.heap.size:=by have:=hownH.out.lt g rfl;exact this.2
    have hRR:=hRH.out g 0 cp os wr (by rw[holH.out];exact hkc) hgl hrowO (henvA.out.below (hbelH.out.mono (by have:=hsAH.out;omega))) (by rw[hQ.out.symm];exact hdH.out)
    rw[hQ.out.symm,holH.out] at hRR
    have hRRH:=hid hRR
    clear hRR hrowO hgl hhg htk2
    have hIQ:Hid (∀ wx,Calls Tryz.prog 119 #[.string s] wx fun e w'=>e = .returned (.bool false)∧wx=w'):=hid (fun wx=>(zdm s wx hsm).mono (fun e w' ⟨h1,h2⟩=>⟨by rw[h1,hq],h2.symm⟩))
    clear hg hs hq
    go_wp2_with (go_at_call 119;refine (hIQ.out _).mono ?_;rintro e w' ⟨rfl,rfl⟩)
    refine hRRH.out.mono ?_
    rintro e w2 ⟨kv,rfl,hrep,hb2⟩
    obtain ⟨ka,kn,kc,rfl⟩:=hrep.form
    have hbel2:=hbelH.out.trans (hb2.mono hBw)
    have hk1:=hbel2.block w.heap.size (by omega)
    rw[hx0H.out] at hk1
    have hszl:w.heap.size<w2.heap.size:=by have:=hbel2.size;have:=hsAH.out;omega
    have hbel2H:=hid hbel2
    have hk1H:=hid hk1
    have hrepH:=hid hrep
    have hb2H:=hid hb2
    have d0:=za0 hk1 0 _ rfl
    have d1:=za0 hk1 1 _ rfl
    have d2:=za0 hk1 2 _ rfl
    have d3:=za0 hk1 3 _ rfl
    have d4:=za0 hk1 4 _ rfl
    have d5:=za0 hk1 5 _ rfl
    have d6:=za0 hk1 6 _ rfl
    have d7:=za0 hk1 7 _ rfl
    have g0:=za7 hk1
    clear hk1 hbel2 hrep hb2
    go_wp2
    refine bodyPost_ret (v:=.tuple #[.agg #[.int .i64 5,.int .i64 0,.slice none 0 0,.int .i64 0,.string ⟨#[]⟩,.string ⟨#[]⟩,.bool false,.slice ka kn kc],.int .i64 (k:Int)]) (by simp[results,Tryz.results120,go_sem,d0,d1,d2,d3,d4,d5,d6,d7]) rfl ⟨.slice ka kn kc,?_,?_,?_⟩
    ·rw[hQ.out,zai,holH.out];rfl
    ·refine hrepH.out.move (fun x hx=>⟨by omega,by rw[zki];exact hx.2⟩) (fun x hx=>ziv _ _ _ _ _ _ _ _ x (by omega))
    ·repeat (refine Below.setCell ?_ (by simp) _)
     exact hbA.trans (hbel2H.out.mono (by omega))
   ·have hall':Hid (∀ j,j<k+1→((dat ss)[j]?.map S.zar)=some true):=by
     intro j hj;by_cases e:j=k
     ·subst e;rw[hg,Option.map_some,hq]
     ·exact hallH.out j (by omega)
    have hsh:S.shallow s.data.toList≠[]:=by intro h;unfold S.zar at hq;rw[h] at hq;simp[Lib.hasPrefix] at hq
    have hUQ:Hid (∀ wx,Calls Tryz.prog 177 #[.string s] wx fun e w'=>∃ r:ByteArray,e = .returned (.string r)∧Hid (r.data.toList=S.zcv s.data.toList)∧r.size≤s.size∧wx=w'):=hid (fun wx=>(zp3 s wx hsm hsh).mono (fun e w' ⟨r,h1,h2,h3,h4⟩=>⟨r,h1,h2,h3,h4.symm⟩))
    have hIQ:Hid (∀ wx,Calls Tryz.prog 119 #[.string s] wx fun e w'=>e = .returned (.bool true)∧wx=w'):=hid (fun wx=>(zdm s wx hsm).mono (fun e w' ⟨h1,h2⟩=>⟨by rw[h1,hq],h2.symm⟩))
    have hgH:=hid hg
    have hsH:=hid hs
    clear hsh hg hs
    have htk:Hid (tot (ss.take (k+1))=tot (ss.take k)+(s.size+1)):=hid (by
     rw[List.take_add_one,hsH.out];simp[tot])
    have hown2:=hid (fun ob=>hownH.out.alloc ob)
    go_wp2_with (go_at_call 119;refine (hIQ.out _).mono ?_;rintro e w' ⟨rfl,rfl⟩)
    refine (hUQ.out _).mono ?_
    rintro e w' ⟨r,rfl,hr,hrl,rfl⟩
    have hnew:Hid (∀ j u,([Value.string r]:List Value)[j]?=some u→(wr.alloc (.cells #[.string r] 9)).cell? ((⟨wr.heap.size,0,none⟩:Addr).add j)=some u):=hid (by
     intro j u hj
     have hj0:j=0:=by have:=(List.getElem?_eq_some_iff.1 hj).1;simpa using this
     subst hj0;simp at hj;subst hj
     exact za0 (za1 _ _) 0 _ rfl)
    go_wp2_with (at_builtin;refine wpList_append_lies _ (by rfl) _ _ 32 (by rfl) (w.heap.size+1) 9 i0 (.string ⟨#[]⟩) 1 16 Tryz.underlying32 hi hz0 hz1 hz2 (by rfl) (by omega) (.slice a k cp) k (os.map Value.string) (by rfl) (hown2.out _) ⟨wr.heap.size,0,none⟩ 1 1 [.string r] (by rfl) (by rfl) hnew.out (by intro u hu;simp at hu;subst hu;rfl) (by omega) (by unfold maxLen;omega) (by omega) (by simp;omega) (wr.heap.size+1) (by simp) ?_)
    intro g cap1 w1 hown1 hgrow hat hltg
    have hown1H:=hid hown1
    have hgrowH:=hid hgrow
    have hlt0:=hid hownH.out.lt
    clear hown1 hgrow hat hltg
    go_wp2
    go_roundw
    case rel=>
     refine ⟨k+1,os++[r],some ⟨g,0,none⟩,cap1,by omega,rfl,by rw[List.length_append,holH.out];rfl,hall'.out,?_,?_,?_,?_⟩
     ·rw[List.take_add_one,hgH.out]
      have h1:dat (os++[r])=dat os++[r.data.toList]:=by simp[dat]
      rw[h1,hdatH.out,hr.out];simp
     ·rw[htk.out]
      have h1:tot (os++[r])=tot os+(r.size+1):=by simp[tot]
      omega
     ·have:=hown1H.out
      rw[List.map_append];exact this
     ·refine Below.grown (hbelH.out.alloc hBw _) hgrowH.out (by simp;omega) (fun q hqq=>(hlt0.out q hqq).1)
    case measure=>simp[lenOf];omega
  ·have hkl:k=ss.length:=by omega
   have hk1:1≤k:=by
    rcases Nat.eq_zero_or_pos ss.length with h|h
    ·have:=hq0H.out;rw[List.getElem?_eq_none (by rw[zai];omega)] at this;simp at this
    ·omega
   have hQ:Hid (S.zad (dat ss)=dat os):=hid (by
    rw[zij ss k hallH.out,hdatH.out,List.drop_eq_nil_of_le (by rw[zai];omega)];simp[S.zad])
   obtain ⟨g,cur,ha,hgb,hhg,hkc,htk2⟩:∃ g cur,a=some ⟨g,0,none⟩∧w.heap.size+1≤g∧wr.heap[g]?=some (.cells cur 9 (0,0))∧k≤cp∧cur.toList.take k=os.map Value.string:=by
    rcases hownH.out.2 with ⟨h1,h2⟩|⟨g,cap2,cur,h1,h2,h3,h4,h5,h6,h7⟩
    ·omega
    ·cases h1;exact ⟨g,cur,rfl,h2,h3,h4,by simpa using h7⟩
   subst ha
   have hrowO:RowS wr g 0 os:=by
    refine ⟨fun i s hi=>?_,Nat.le_trans hto (Nat.le_trans (Nat.le_trans (zo1 ss k) (Nat.le_refl _)) htot)⟩
    have hc:cur[i]?=some (.string s):=by
     have h1:(os.map Value.string)[i]?=some (.string s):=by rw[List.getElem?_map,hi];rfl
     rw[← htk2] at h1
     have hik:i<k:=by have:=(List.getElem?_eq_some_iff.1 h1).1;rw[List.length_take] at this;omega
     rw[List.getElem?_take_of_lt hik] at h1;simpa using h1
    rw[Nat.zero_add];exact za0 hhg i _ hc
   have hgl:g<wr.heap.size:=by have:=hownH.out.lt g rfl;exact this.2
   have hRR:=hRH.out g 0 cp os wr (by rw[holH.out];exact hkc) hgl hrowO (henvA.out.below (hbelH.out.mono (by have:=hsAH.out;omega))) (by rw[hQ.out.symm];exact hdH.out)
   rw[hQ.out.symm,holH.out] at hRR
   have hRRH:=hid hRR
   clear hRR hrowO hgl hhg htk2
   clear hkl
   go_wp2_with fail
   refine hRRH.out.mono ?_
   rintro e w2 ⟨kv,rfl,hrep,hb2⟩
   obtain ⟨ka,kn,kc,rfl⟩:=hrep.form
   have hbel2:=hbelH.out.trans (hb2.mono hBw)
   have hk1:=hbel2.block w.heap.size (by omega)
   rw[hx0H.out] at hk1
   have hszl:w.heap.size<w2.heap.size:=by have:=hbel2.size;have:=hsAH.out;omega
   have hbel2H:=hid hbel2
   have hk1H:=hid hk1
   have hrepH:=hid hrep
   have hb2H:=hid hb2
   have d0:=za0 hk1 0 _ rfl
   have d1:=za0 hk1 1 _ rfl
   have d2:=za0 hk1 2 _ rfl
   have d3:=za0 hk1 3 _ rfl
   have d4:=za0 hk1 4 _ rfl
   have d5:=za0 hk1 5 _ rfl
   have d6:=za0 hk1 6 _ rfl
   have d7:=za0 hk1 7 _ rfl
   have g0:=za7 hk1
   clear hk1 hbel2 hrep hb2
   go_wp2
   refine bodyPost_ret (v:=.tuple #[.agg #[.int .i64 5,.int .i64 0,.slice none 0 0,.int .i64 0,.string ⟨#[]⟩,.string ⟨#[]⟩,.bool false,.slice ka kn kc],.int .i64 (k:Int)]) (by simp[results,Tryz.results120,go_sem,d0,d1,d2,d3,d4,d5,d6,d7]) rfl ⟨.slice ka kn kc,?_,?_,?_⟩
   ·rw[hQ.out,zai,holH.out];rfl
   ·refine hrepH.out.move (fun x hx=>⟨by omega,by rw[zki];exact hx.2⟩) (fun x hx=>ziv _ _ _ _ _ _ _ _ x (by omega))
   ·repeat (refine Below.setCell ?_ (by simp) _)
    exact hbA.trans (hbel2H.out.mono (by omega))
end Go.Proofs.YtlojgpkajkedeaaGreatDoor
