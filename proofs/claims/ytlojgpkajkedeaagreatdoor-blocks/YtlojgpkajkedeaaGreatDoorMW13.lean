import Derived.Test.YtlojgpkajkedeaaGreatDoorMW12
namespace Go.Proofs.YtlojgpkajkedeaaGreatDoor
open Go.RowKit
theorem zfi (l:List (List UInt8)) (k:Nat) (h:∀ j,j<k→(l[j]?.map S.zcj)=some false) (he:(l[k]?.map S.zcj)≠some false):S.zc4 l=k:=by
 induction l generalizing k with
 | nil=>cases k with
  | zero=>simp[S.zc4]
  | succ k=>have:=h 0 (by omega);simp at this
 | cons x r ih=>cases k with
  | zero=>simp at he;simp[S.zc4,he]
  | succ k=>
   have h0:=h 0 (by omega);simp at h0
   have:=ih k (fun j hj=>by have:=h (j+1) (by omega);simpa using this) (by simpa using he)
   simp[S.zc4,this,h0]
theorem RowS.take {w:World} {b o:Nat} {ss:List ByteArray} (h:RowS w b o ss) (k:Nat):RowS w b o (ss.take k):=by
 refine ⟨fun i s hi=>h.1 i s ?_,?_⟩
 ·have hik:i<k:=by have:=(List.getElem?_eq_some_iff.1 hi).1;rw[List.length_take] at this;omega
  rw[List.getElem?_take_of_lt hik] at hi;exact hi
 ·refine Nat.le_trans ?_ h.2
  clear h
  induction ss generalizing k with
  | nil=>simp[tot]
  | cons s r ih=>cases k with
   | zero=>simp[tot]
   | succ k=>have:=ih k;simp only[List.take_succ_cons,tot,List.map_cons,List.sum_cons] at *;omega
theorem zdd {w:World} {N T:Nat} {a0 a1 a2 a3 a4 a5 a6 a7:Value} (h:w.heap[N]?=some (.cells #[a0,a1,a2,a3,a4,a5,a6,a7] T (0,0))) (hlt:N<w.heap.size) (v0 v1 v2 v3 v4 v5 v6 v7:Value) (X:Obj) :
  (((((((((w.setCell ⟨N,0,none⟩ v0).setCell ⟨N,1,none⟩ v1).setCell ⟨N,2,none⟩ v2).setCell ⟨N,3,none⟩ v3).setCell ⟨N,4,none⟩ v4).setCell ⟨N,5,none⟩ v5).setCell ⟨N,6,none⟩ v6).setCell ⟨N,7,none⟩ v7).alloc X).heap[N]?=some (.cells #[v0,v1,v2,v3,v4,v5,v6,v7] T (0,0)):=by
 rw[Below.heap_alloc _ _ _ (by simp[World.setCell];exact hlt)]
 exact za3 (za3 (za3 (za3 (za3 (za3 (za3 (za3 h 0 _) 1 _) 2 _) 3 _) 4 _) 5 _) 6 _) 7 _
theorem zlz {B N:Nat} {a w:World} (h:Below B a w) (hN:B≤N) (hB:B≤w.heap.size) (v0 v1 v2 v3 v4 v5 v6 v7:Value) (X:Obj) :
  Below B a (((((((((w.setCell ⟨N,0,none⟩ v0).setCell ⟨N,1,none⟩ v1).setCell ⟨N,2,none⟩ v2).setCell ⟨N,3,none⟩ v3).setCell ⟨N,4,none⟩ v4).setCell ⟨N,5,none⟩ v5).setCell ⟨N,6,none⟩ v6).setCell ⟨N,7,none⟩ v7).alloc X):=by
 refine Below.alloc (Below.setCell (Below.setCell (Below.setCell (Below.setCell (Below.setCell (Below.setCell (Below.setCell (Below.setCell h hN _) hN _) hN _) hN _) hN _) hN _) hN _) hN _) ?_ _
 simp[World.setCell];exact hB
set_option maxHeartbeats 4000000 in
theorem zji (b o cap:Nat) (s0:ByteArray) (ts:List ByteArray) (w:World) (hcap:ts.length+1≤cap) (hbw:b<w.heap.size) (hrow:RowS w b o (s0::ts)) (henv:Env w) :
  Calls Tryz.prog 123 #[.slice (some ⟨b,o,none⟩) (ts.length+1) cap] w fun e w'=>
   e = .returned (.tuple #[zdl (S.za8 (dat (s0::ts))).1 (.slice none 0 0),.int .i64 ((S.za8 (dat (s0::ts))).2:Nat)])∧Below w.heap.size w w':=by
 have htot:=hrow.2
 have hlen:=hrow.len
 simp only[List.length_cons] at hlen
 go_enter Tryz.func123,Tryz.ntmps123
 go_wp2
 obtain ⟨WA,hWA⟩:∃ WA,WA=w.alloc (.cells #[.int .i64 0,.int .i64 0,.slice none 0 0,.int .i64 0,.string ⟨#[]⟩,.string ⟨#[]⟩,.bool false,.slice none 0 0] 110):=⟨_,rfl⟩
 have hsA:WA.heap.size=w.heap.size+1:=by rw[hWA];simp
 have hbA:Below w.heap.size w WA:=by rw[hWA];exact (Below.refl _ w).alloc (Nat.le_refl _) _
 have hx0:WA.heap[w.heap.size]?=some (.cells #[.int .i64 0,.int .i64 0,.slice none 0 0,.int .i64 0,.string ⟨#[]⟩,.string ⟨#[]⟩,.bool false,.slice none 0 0] 110):=by rw[hWA];exact za1 _ _
 rw[← hWA]
 have hsAH:=hid hsA
 have hx0H:=hid hx0
 have hrowA:=hid (hrow.below hbA hbw)
 have henvA:=hid (henv.below hbA)
 clear hsA hx0 hWA
 go_loopw [4] (fun i wr=>∃ k:Nat,k≤ts.length∧i = .int .i64 ((k:Int)+1)∧(∀ j,j<k→((dat ts)[j]?.map S.zcj)=some false)∧Below (w.heap.size+1) WA wr) (fun i _=>ts.length+1-(intOf i).toNat)
 case atStart=>exact ⟨0,Nat.zero_le _,rfl,by intro j hj;omega,Below.refl _ _⟩
 case round=>
  obtain ⟨k,hk,rfl,hall,hbel⟩:=hrel
  have hsz:=hbel.size
  have hsA':=hsAH.out
  have hBw:w.heap.size+1≤wr.heap.size:=by omega
  have hbelH:=hid hbel
  have hallH:=hid hall
  have henvr:=hid (henvA.out.below (hbel.mono (by omega)))
  clear hsz hsA' hbel hall
  have hTL:((s0::ts).take (k+1)).length=k+1:=by rw[List.length_take,List.length_cons];omega
  have hJR:Hid (∀ wx,Below (w.heap.size+1) WA wx→Calls Tryz.prog 183 #[.slice (some ⟨b,o,none⟩) (k+1) cap] wx fun e w'=>∃ r:ByteArray,e = .returned (.string r)∧Hid (r.data.toList=Lib.trimRightB (S.zak (dat ((s0::ts).take (k+1)))) 32)∧Below wx.heap.size wx w'):=hid (fun wx hwx=>by
   have:=znp b o cap ((s0::ts).take (k+1)) wx (by have:=hwx.size;have:=hsAH.out;omega) ((hrowA.out.below hwx (by omega)).take (k+1))
   rw[hTL] at this;exact this)
  have hdt:Hid (dat ((s0::ts).take (k+1))=(dat (s0::ts)).take (k+1)):=hid (by simp[dat])
  clear hTL
  by_cases hlt:k<ts.length
  ·obtain ⟨s,hs⟩:∃ s,ts[k]?=some s:=⟨ts[k],List.getElem?_eq_getElem hlt⟩
   have hs1:(s0::ts)[k+1]?=some s:=by simpa using hs
   have hcell:wr.cell? ⟨b,o+(k+1),none⟩=some (.string s):=(hbelH.out.cell (p:=⟨b,o+(k+1),none⟩) (by show b<_;omega)).trans (hrowA.out.1 (k+1) s hs1)
   have hs47:s.size≤140737488355328:=by have:=zdf _ _ s hs1;omega
   have hsm:s.size≤maxLen:=by unfold maxLen;omega
   have hg:(dat ts)[k]?=some s.data.toList:=by rw[zcu,hs];rfl
   have hne1:((k:Int)+1 == (ts.length:Int)+1)=false:=by rw[beq_eq_false_iff_ne];omega
   cases he:S.zcj s.data.toList
   ·have hall':Hid (∀ j,j<k+1→((dat ts)[j]?.map S.zcj)=some false):=by
     intro j hj;by_cases e:j=k
     ·subst e;rw[hg,Option.map_some,he]
     ·exact hallH.out j (by omega)
    have hEP:=hid (he ▸ zfo s wr hs47 henvr.out)
    clear hs hs1 hg he
    go_wp2_with fail
    refine hEP.out.mono ?_
    rintro e w1 ⟨rfl,hb1⟩
    have hb1H:=hid hb1
    clear hb1
    go_wp2
    go_roundw
    case rel=>exact ⟨k+1,by omega,by go_num,hall'.out,hbelH.out.trans (hb1H.out.mono hBw)⟩
    case measure=>simp[intOf];omega
   ·have hps:S.zc4 (dat ts)=k:=zfi _ k hallH.out (by rw[hg,Option.map_some,he];simp)
    have hres:Hid (S.za8 (dat (s0::ts))=if 0<S.zac s.data.toList then (.mk 2 (S.zac s.data.toList) [] (Lib.trimRightB (S.zak (dat ((s0::ts).take (k+1)))) 32) false [],k+1+1) else (.mk 1 0 [] (Lib.trimRightB (S.zak (dat ((s0::ts).take (k+1)))) 32) false [],k+1)):=hid (by
     unfold S.za8
     rw[show (dat (s0::ts)).tail=dat ts from rfl,hps,hdt.out]
     have:(dat (s0::ts))[k+1]?=some s.data.toList:=by rw[zcu,hs1];rfl
     simp only[this])
    have hEP:=hid (he ▸ zfo s wr hs47 henvr.out)
    clear hs hs1 hg he hps
    go_wp2_with fail
    refine hEP.out.mono ?_
    rintro e w1 ⟨rfl,hb1⟩
    have hbel1:=hid (hbelH.out.trans (hb1.mono hBw))
    clear hb1
    go_wp2_with fail
    refine (hJR.out _ hbel1.out).mono ?_
    rintro e w2 ⟨r,rfl,hr,hb2⟩
    have hbel2:=hbel1.out.trans (hb2.mono (by have:=hbel1.out.size;have:=hsAH.out;omega))
    have hbel2H:=hid hbel2
    have hk1:=hbel2.block w.heap.size (by omega)
    rw[hx0H.out] at hk1
    have hcell2:w2.cell? ⟨b,o+(k+1),none⟩=some (.string s):=by
     rw[hbel2.cell (p:=⟨b,o+(k+1),none⟩) (by show b<_;omega),← hbelH.out.cell (p:=⟨b,o+(k+1),none⟩) (by show b<_;omega)];exact hcell
    have hsz2:w.heap.size+1≤w2.heap.size:=by have:=hbel2.size;have:=hsAH.out;omega
    have hcellA:∀ ob,(w2.alloc ob).cell? ⟨b,o+(k+1),none⟩=some (.string s):=fun ob=>by
     rw[((Below.refl w2.heap.size w2).alloc (Nat.le_refl _) ob).cell (p:=⟨b,o+(k+1),none⟩) (by show b<_;omega)];exact hcell2
    have z0:=hid (fun v0 v1 v2 v3 v4 v5 v6 v7 X=>za0 (zdd hk1 (by omega) v0 v1 v2 v3 v4 v5 v6 v7 X) 0 _ rfl)
    have z1:=hid (fun v0 v1 v2 v3 v4 v5 v6 v7 X=>za0 (zdd hk1 (by omega) v0 v1 v2 v3 v4 v5 v6 v7 X) 1 _ rfl)
    have z2:=hid (fun v0 v1 v2 v3 v4 v5 v6 v7 X=>za0 (zdd hk1 (by omega) v0 v1 v2 v3 v4 v5 v6 v7 X) 2 _ rfl)
    have z3:=hid (fun v0 v1 v2 v3 v4 v5 v6 v7 X=>za0 (zdd hk1 (by omega) v0 v1 v2 v3 v4 v5 v6 v7 X) 3 _ rfl)
    have z4:=hid (fun v0 v1 v2 v3 v4 v5 v6 v7 X=>za0 (zdd hk1 (by omega) v0 v1 v2 v3 v4 v5 v6 v7 X) 4 _ rfl)
    have z5:=hid (fun v0 v1 v2 v3 v4 v5 v6 v7 X=>za0 (zdd hk1 (by omega) v0 v1 v2 v3 v4 v5 v6 v7 X) 5 _ rfl)
    have z6:=hid (fun v0 v1 v2 v3 v4 v5 v6 v7 X=>za0 (zdd hk1 (by omega) v0 v1 v2 v3 v4 v5 v6 v7 X) 6 _ rfl)
    have z7:=hid (fun v0 v1 v2 v3 v4 v5 v6 v7 X=>za0 (zdd hk1 (by omega) v0 v1 v2 v3 v4 v5 v6 v7 X) 7 _ rfl)
    have d0:=za0 hk1 0 _ rfl
    have d1:=za0 hk1 1 _ rfl
    have d2:=za0 hk1 2 _ rfl
    have d3:=za0 hk1 3 _ rfl
    have d4:=za0 hk1 4 _ rfl
    have d5:=za0 hk1 5 _ rfl
    have d6:=za0 hk1 6 _ rfl
    have d7:=za0 hk1 7 _ rfl
    have g0:=za7 hk1
    have hrS:Hid (Value.string r = .string (S.B (Lib.trimRightB (S.zak (dat ((s0::ts).take (k+1)))) 32))):=hid (by rw[← hr.out,S.zbq])
    have hszl:w.heap.size<w2.heap.size:=by omega
    have hneN:w.heap.size≠w2.heap.size:=by omega
    have hneN':w2.heap.size≠w.heap.size:=by omega
    clear hk1 hbel2 hcell2 hcell hb2
    have hUL:=hid (fun wx=>zbp s wx hsm)
    obtain ⟨lv,hlv⟩:∃ lv,S.zac s.data.toList=lv:=⟨_,rfl⟩
    rw[hlv] at hUL hres
    clear hlv
    go_wp2_with fail
    refine (hUL.out _).mono ?_
    rintro e w3 ⟨rfl,rfl⟩
    by_cases hl0:0<lv
    ·have hres2:Hid (S.za8 (dat (s0::ts))=(.mk 2 (lv:Int) [] (Lib.trimRightB (S.zak (dat ((s0::ts).take (k+1)))) 32) false [],k+1+1)):=hid (by rw[hres.out,if_pos hl0])
     go_wp2
     refine bodyPost_ret (v:=.tuple #[.agg #[.int .i64 2,.int .i64 0,.slice none 0 0,.int .i64 (lv:Int),.string ⟨#[]⟩,.string r,.bool false,.slice none 0 0],.int .i64 ((k:Int)+1+1)]) (by have z0:=z0.out;have z1:=z1.out;have z2:=z2.out;have z3:=z3.out;have z4:=z4.out;have z5:=z5.out;have z6:=z6.out;have z7:=z7.out;simp[results,Tryz.results123,go_sem,z0,z1,z2,z3,z4,z5,z6,z7]) rfl ⟨?_,?_⟩
     ·rw[hres2.out,hrS.out];rfl
     ·exact zlz (hbA.trans (hbel2H.out.mono (by omega))) (Nat.le_refl _) (by omega) _ _ _ _ _ _ _ _ _
    ·have hres2:Hid (S.za8 (dat (s0::ts))=(.mk 1 0 [] (Lib.trimRightB (S.zak (dat ((s0::ts).take (k+1)))) 32) false [],k+1)):=hid (by rw[hres.out,if_neg hl0])
     go_wp2
     refine bodyPost_ret (v:=.tuple #[.agg #[.int .i64 1,.int .i64 0,.slice none 0 0,.int .i64 0,.string ⟨#[]⟩,.string r,.bool false,.slice none 0 0],.int .i64 ((k:Int)+1)]) (by have z0:=z0.out;have z1:=z1.out;have z2:=z2.out;have z3:=z3.out;have z4:=z4.out;have z5:=z5.out;have z6:=z6.out;have z7:=z7.out;simp[results,Tryz.results123,go_sem,z0,z1,z2,z3,z4,z5,z6,z7]) rfl ⟨?_,?_⟩
     ·rw[hres2.out,hrS.out];rfl
     ·exact zlz (hbA.trans (hbel2H.out.mono (by omega))) (Nat.le_refl _) (by omega) _ _ _ _ _ _ _ _ _
  ·have hkl:k=ts.length:=by omega
   have hps:S.zc4 (dat ts)=k:=zfi _ k hallH.out (by rw[List.getElem?_eq_none (by rw[zai];omega)];simp)
   have hres2:Hid (S.za8 (dat (s0::ts))=(.mk 1 0 [] (Lib.trimRightB (S.zak (dat ((s0::ts).take (k+1)))) 32) false [],k+1)):=hid (by
    unfold S.za8
    rw[show (dat (s0::ts)).tail=dat ts from rfl,hps,hdt.out]
    have:(dat (s0::ts))[k+1]?=none:=by rw[List.getElem?_eq_none];rw[zai,List.length_cons];omega
    simp only[this])
   have hne1:((k:Int)+1 == (ts.length:Int)+1)=true:=by rw[beq_iff_eq];omega
   clear hps hkl
   go_wp2_with fail
   refine (hJR.out _ hbelH.out).mono ?_
   rintro e w2 ⟨r,rfl,hr,hb2⟩
   have hbel2:=hbelH.out.trans (hb2.mono hBw)
   have hbel2H:=hid hbel2
   have hk1:=hbel2.block w.heap.size (by omega)
   rw[hx0H.out] at hk1
   have hszl:w.heap.size<w2.heap.size:=by have:=hbel2.size;have:=hsAH.out;omega
   have z0:=hid (fun v0 v1 v2 v3 v4 v5 v6 v7 X=>za0 (zdd hk1 (by omega) v0 v1 v2 v3 v4 v5 v6 v7 X) 0 _ rfl)
   have z1:=hid (fun v0 v1 v2 v3 v4 v5 v6 v7 X=>za0 (zdd hk1 (by omega) v0 v1 v2 v3 v4 v5 v6 v7 X) 1 _ rfl)
   have z2:=hid (fun v0 v1 v2 v3 v4 v5 v6 v7 X=>za0 (zdd hk1 (by omega) v0 v1 v2 v3 v4 v5 v6 v7 X) 2 _ rfl)
   have z3:=hid (fun v0 v1 v2 v3 v4 v5 v6 v7 X=>za0 (zdd hk1 (by omega) v0 v1 v2 v3 v4 v5 v6 v7 X) 3 _ rfl)
   have z4:=hid (fun v0 v1 v2 v3 v4 v5 v6 v7 X=>za0 (zdd hk1 (by omega) v0 v1 v2 v3 v4 v5 v6 v7 X) 4 _ rfl)
   have z5:=hid (fun v0 v1 v2 v3 v4 v5 v6 v7 X=>za0 (zdd hk1 (by omega) v0 v1 v2 v3 v4 v5 v6 v7 X) 5 _ rfl)
   have z6:=hid (fun v0 v1 v2 v3 v4 v5 v6 v7 X=>za0 (zdd hk1 (by omega) v0 v1 v2 v3 v4 v5 v6 v7 X) 6 _ rfl)
   have z7:=hid (fun v0 v1 v2 v3 v4 v5 v6 v7 X=>za0 (zdd hk1 (by omega) v0 v1 v2 v3 v4 v5 v6 v7 X) 7 _ rfl)
   have d0:=za0 hk1 0 _ rfl
   have d1:=za0 hk1 1 _ rfl
   have d2:=za0 hk1 2 _ rfl
   have d3:=za0 hk1 3 _ rfl
   have d4:=za0 hk1 4 _ rfl
   have d5:=za0 hk1 5 _ rfl
   have d6:=za0 hk1 6 _ rfl
   have d7:=za0 hk1 7 _ rfl
   have g0:=za7 hk1
   have hrS:Hid (Value.string r = .string (S.B (Lib.trimRightB (S.zak (dat ((s0::ts).take (k+1)))) 32))):=hid (by rw[← hr.out,S.zbq])
   have hneN:w.heap.size≠w2.heap.size:=by omega
   have hneN':w2.heap.size≠w.heap.size:=by omega
   clear hk1 hbel2 hb2
   go_wp2
   refine bodyPost_ret (v:=.tuple #[.agg #[.int .i64 1,.int .i64 0,.slice none 0 0,.int .i64 0,.string ⟨#[]⟩,.string r,.bool false,.slice none 0 0],.int .i64 ((k:Int)+1)]) (by have z0:=z0.out;have z1:=z1.out;have z2:=z2.out;have z3:=z3.out;have z4:=z4.out;have z5:=z5.out;have z6:=z6.out;have z7:=z7.out;simp[results,Tryz.results123,go_sem,z0,z1,z2,z3,z4,z5,z6,z7]) rfl ⟨?_,?_⟩
   ·rw[hres2.out,hrS.out];rfl
   ·exact zlz (hbA.trans (hbel2H.out.mono (by omega))) (Nat.le_refl _) (by omega) _ _ _ _ _ _ _ _ _
end Go.Proofs.YtlojgpkajkedeaaGreatDoor
