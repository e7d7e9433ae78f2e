import Derived.Test.YtlojgpkajkedeaaGreatDoorNW12
set_option maxHeartbeats 16000000
set_option maxRecDepth 100000
namespace Go.Proofs.YtlojgpkajkedeaaGreatDoor
open Go.RowKit Go.Proofs.Tryz
theorem zfp (l:List (List UInt8))(k:Nat)(h:∀j,j<k->(l[j]?.map S.zco)=some false)(he:(l[k]?.map S.zco)≠some false):S.zcb l=k:=by
 induction l generalizing k with
 | nil=>cases k with
  | zero=>simp[S.zcb]
  | succ k=>have:=h 0 (by omega);simp at this
 | cons x r ih=>cases k with
  | zero=>simp at he;simp[S.zcb,he]
  | succ k=>
   have h0:=h 0 (by omega);simp at h0;have:=ih k (λj hj=>by have:=h (j+1) (by omega);simpa using this) (by simpa using he);simp[S.zcb,this,h0]
theorem RowS.take {w:World}{b o:Nat}{ss:List ByteArray}(h:RowS w b o ss)(k:Nat):RowS w b o (ss.take k):=by
 refine⟨λi s hi=>h.1 i s ?_,?_⟩
 ·have hik:i<k:=by have:=(Qb.1 hi).1;rw[Ql] at this;omega
  rw[Qbe hik] at hi;exact hi
 ·refine Qj ?_ h.2;clear h;induction ss generalizing k with
  | nil=>simp[tot]
  | cons s r ih=>cases k with
   | zero=>simp[tot]
   | succ k=>have:=ih k;simp only[Qz,tot,Qs,List.sum_cons] at *;omega
theorem zdh {w:World}{N T:Nat}{a0 a1 a2 a3 a4 a5 a6 a7:Value}(h:w.heap[N]?=some (.cells #[a0,a1,a2,a3,a4,a5,a6,a7] T (0,0)))(hlt:N<w.heap.size)(v0 v1 v2 v3 v4 v5 v6 v7:Value)(X:Obj):(((((((((w.setCell ⟨N,0,none⟩ v0).setCell ⟨N,1,none⟩ v1).setCell ⟨N,2,none⟩ v2).setCell ⟨N,3,none⟩ v3).setCell ⟨N,4,none⟩ v4).setCell ⟨N,5,none⟩ v5).setCell ⟨N,6,none⟩ v6).setCell ⟨N,7,none⟩ v7).alloc X).heap[N]?=some (.cells #[v0,v1,v2,v3,v4,v5,v6,v7] T (0,0)):=by
 rw[Below.heap_alloc _ _ _ (by simp[World.setCell];exact hlt)];exact za3 (za3 (za3 (za3 (za3 (za3 (za3 (za3 h 0 _) 1 _) 2 _) 3 _) 4 _) 5 _) 6 _) 7 _
theorem zmv {B N:Nat}{a w:World}(h:Below B a w)(hN:B<=N)(hB:B<=w.heap.size)(v0 v1 v2 v3 v4 v5 v6 v7:Value)(X:Obj):Below B a (((((((((w.setCell ⟨N,0,none⟩ v0).setCell ⟨N,1,none⟩ v1).setCell ⟨N,2,none⟩ v2).setCell ⟨N,3,none⟩ v3).setCell ⟨N,4,none⟩ v4).setCell ⟨N,5,none⟩ v5).setCell ⟨N,6,none⟩ v6).setCell ⟨N,7,none⟩ v7).alloc X):=by
 refine Below.alloc (Below.setCell (Below.setCell (Below.setCell (Below.setCell (Below.setCell (Below.setCell (Below.setCell (Below.setCell h hN _) hN _) hN _) hN _) hN _) hN _) hN _) hN _) ?_ _;simp[World.setCell];exact hB
theorem zjx (b o cap:Nat)(s0:ByteArray)(ts:List ByteArray)(w:World)(hcap:ts.length+1<=cap)(hbw:b<w.heap.size)(hrow:RowS w b o (s0::ts))(henv:Env w):Calls prog 123 #[.slice (some ⟨b,o,none⟩) (ts.length+1) cap] w λe w'=>
   e=.returned (.tuple #[zdu (S.za8 (dat (s0::ts))).1 (.slice none 0 0),.int .i64 ((S.za8 (dat (s0::ts))).2:Nat)])/\Below w.heap.size w w':=by
 have htot:=hrow.2;have hlen:=hrow.len;simp only[Qd] at hlen;go_enter func123,ntmps123;go_wp2;obtain⟨WA,jw⟩:=Qzz (w.alloc (.cells #[.int .i64 0,.int .i64 0,.slice none 0 0,.int .i64 0,.string ⟨#[]⟩,.string ⟨#[]⟩,.bool false,.slice none 0 0] 110));have hsA:WA.heap.size=w.heap.size+1:=by rw[jw];simp
 have jm:Below w.heap.size w WA:=by rw[jw];exact(Below.refl _ w).alloc (Qc _) _
 have hx0:WA.heap[w.heap.size]?=some (.cells #[.int .i64 0,.int .i64 0,.slice none 0 0,.int .i64 0,.string ⟨#[]⟩,.string ⟨#[]⟩,.bool false,.slice none 0 0] 110):=by rw[jw];exact za1 _ _
 rw[<-jw];have dx:=hid hsA;have jg:=hid hx0;have gy:=hid (hrow.below jm hbw);have jl:=hid (henv.below jm);clear hsA hx0 jw;go_loopw [4] (λi wr=>∃k:Nat,k<=ts.length/\i=.int .i64 ((k:Int)+1)/\(∀j,j<k->((dat ts)[j]?.map S.zco)=some false)/\Below (w.heap.size+1) WA wr) (λi _=>ts.length+1-(intOf i).toNat)
 case atStart=>exact⟨0,Qt _,rfl,by intro j hj;omega,Below.refl _ _⟩
 case round=>
  obtain⟨k,hk,rfl,hall,hbel⟩:=hrel;have hsz:=hbel.size;have hsA':=dx.out;have hBw:w.heap.size+1<=wr.heap.size:=by omega
  have dh:=hid hbel;have gq:=hid hall;have jd:=hid (jl.out.below (hbel.mono (by omega)));clear hsz hsA' hbel hall;have hTL:((s0::ts).take (k+1)).length=k+1:=by rw[Ql,Qd];omega
  have ng:Hid (∀wx,Below (w.heap.size+1) WA wx->Calls prog 183 #[.slice (some ⟨b,o,none⟩) (k+1) cap] wx λe w'=>∃r:ByteArray,e=.returned (.string r)/\Hid (r.data.toList=Lib.trimRightB (S.zaj (dat ((s0::ts).take (k+1)))) 32)/\Below wx.heap.size wx w'):=hid (λwx hwx=>by
   have:=zpf b o cap ((s0::ts).take (k+1)) wx (by have:=hwx.size;have:=dx.out;omega) ((gy.out.below hwx (by omega)).take (k+1));rw[hTL] at this;exact this)
  have hdt:Hid (dat ((s0::ts).take (k+1))=(dat (s0::ts)).take (k+1)):=hid (by simp[dat]);clear hTL;by_cases hlt:k<ts.length
  ·obtain⟨s,hs⟩:∃s,ts[k]?=some s:=⟨ts[k],Qg hlt⟩;have hs1:(s0::ts)[k+1]?=some s:=by simpa using hs
   have hcell:wr.cell? ⟨b,o+(k+1),none⟩=some (.string s):=(dh.out.cell (p:=⟨b,o+(k+1),none⟩) (by show b<_;omega)).trans (gy.out.1 (k+1) s hs1);have jh:s.size<=140737488355328:=by have:=zdg _ _ s hs1;omega
   have hsm:s.size<=maxLen:=by unfold maxLen;omega
   have hg:(dat ts)[k]?=some s.data.toList:=by rw[zd0,hs];rfl
   have hne1:((k:Int)+1 == (ts.length:Int)+1)=false:=by rw[Qe];omega
   cases he:S.zco s.data.toList
   ·have jq:Hid (∀j,j<k+1->((dat ts)[j]?.map S.zco)=some false):=by
     intro j hj;by_cases e:j=k
     ·subst e;rw[hg,Option.map_some,he]
     ·exact gq.out j (by omega)
    have mh:=hid (he▸zfs s wr jh jd.out);clear hs hs1 hg he;go_wp2_with (fail);refine mh.out.mono ?_;rintro e w1⟨rfl,hb1⟩;have lq:=hid hb1;clear hb1;go_wp2;go_roundw
    case rel=>exact⟨k+1,by omega,by go_num,jq.out,dh.out.trans (lq.out.mono hBw)⟩
    case measure=>simp[intOf];omega
   ·have hps:S.zcb (dat ts)=k:=zfp _ k gq.out (by rw[hg,Option.map_some,he];simp);have hres:Hid (S.za8 (dat (s0::ts))=if 0<S.zab s.data.toList then (.mk 2 (S.zab s.data.toList) [] (Lib.trimRightB (S.zaj (dat ((s0::ts).take (k+1)))) 32) false [],k+1+1) else (.mk 1 0 [] (Lib.trimRightB (S.zaj (dat ((s0::ts).take (k+1)))) 32) false [],k+1)):=hid (by
     unfold S.za8;rw[show (dat (s0::ts)).tail=dat ts from rfl,hps,hdt.out];have:(dat (s0::ts))[k+1]?=some s.data.toList:=(by rw[zd0,hs1];rfl);simp only[this])
    have mh:=hid (he▸zfs s wr jh jd.out);clear hs hs1 hg he hps;go_wp2_with (fail);refine mh.out.mono ?_;rintro e w1⟨rfl,hb1⟩;have fq:=hid (dh.out.trans (hb1.mono hBw));clear hb1;go_wp2_with (fail);refine(ng.out _ fq.out).mono ?_;rintro e w2⟨r,rfl,hr,hb2⟩;have bg:=fq.out.trans (hb2.mono (by have:=fq.out.size;have:=dx.out;omega));have dw:=hid bg;have hk1:=bg.block w.heap.size (by omega);rw[jg.out] at hk1;have hcell2:w2.cell? ⟨b,o+(k+1),none⟩=some (.string s):=by
     rw[bg.cell (p:=⟨b,o+(k+1),none⟩) (by show b<_;omega),<-dh.out.cell (p:=⟨b,o+(k+1),none⟩) (by show b<_;omega)];exact hcell
    have hsz2:w.heap.size+1<=w2.heap.size:=(by have:=bg.size;have:=dx.out;omega);have lg:∀ob,(w2.alloc ob).cell? ⟨b,o+(k+1),none⟩=some (.string s):=λob=>by
     rw[((Below.refl w2.heap.size w2).alloc (Qc _) ob).cell (p:=⟨b,o+(k+1),none⟩) (by show b<_;omega)];exact hcell2
    have z0:=hid (λv0 v1 v2 v3 v4 v5 v6 v7 X=>za0 (zdh hk1 (by omega) v0 v1 v2 v3 v4 v5 v6 v7 X) 0 _ rfl);have z1:=hid (λv0 v1 v2 v3 v4 v5 v6 v7 X=>za0 (zdh hk1 (by omega) v0 v1 v2 v3 v4 v5 v6 v7 X) 1 _ rfl);have z2:=hid (λv0 v1 v2 v3 v4 v5 v6 v7 X=>za0 (zdh hk1 (by omega) v0 v1 v2 v3 v4 v5 v6 v7 X) 2 _ rfl);have z3:=hid (λv0 v1 v2 v3 v4 v5 v6 v7 X=>za0 (zdh hk1 (by omega) v0 v1 v2 v3 v4 v5 v6 v7 X) 3 _ rfl);have z4:=hid (λv0 v1 v2 v3 v4 v5 v6 v7 X=>za0 (zdh hk1 (by omega) v0 v1 v2 v3 v4 v5 v6 v7 X) 4 _ rfl);have z5:=hid (λv0 v1 v2 v3 v4 v5 v6 v7 X=>za0 (zdh hk1 (by omega) v0 v1 v2 v3 v4 v5 v6 v7 X) 5 _ rfl);have z6:=hid (λv0 v1 v2 v3 v4 v5 v6 v7 X=>za0 (zdh hk1 (by omega) v0 v1 v2 v3 v4 v5 v6 v7 X) 6 _ rfl);have z7:=hid (λv0 v1 v2 v3 v4 v5 v6 v7 X=>za0 (zdh hk1 (by omega) v0 v1 v2 v3 v4 v5 v6 v7 X) 7 _ rfl);have d0:=za0 hk1 0 _ rfl;have d1:=za0 hk1 1 _ rfl;have d2:=za0 hk1 2 _ rfl;have d3:=za0 hk1 3 _ rfl;have d4:=za0 hk1 4 _ rfl;have d5:=za0 hk1 5 _ rfl;have d6:=za0 hk1 6 _ rfl;have d7:=za0 hk1 7 _ rfl;have g0:=za7 hk1;have jy:Hid (Value.string r=.string (S.B (Lib.trimRightB (S.zaj (dat ((s0::ts).take (k+1)))) 32))):=hid (by rw[<-hr.out,S.zbp]);have kg:w.heap.size<w2.heap.size:=(by omega);have kr:w.heap.size≠w2.heap.size:=(by omega);have jk:w2.heap.size≠w.heap.size:=(by omega);clear hk1 bg hcell2 hcell hb2;have mq:=hid (λwx=>zbr s wx hsm);obtain⟨lv,hlv⟩:=Qyy (S.zab s.data.toList);rw[hlv] at mq hres;clear hlv;go_wp2_with (fail);refine(mq.out _).mono ?_;rintro e w3⟨rfl,rfl⟩;by_cases hl0:0<lv
    ·have hres2:Hid (S.za8 (dat (s0::ts))=(.mk 2 (lv:Int) [] (Lib.trimRightB (S.zaj (dat ((s0::ts).take (k+1)))) 32) false [],k+1+1)):=hid (by rw[hres.out,if_pos hl0]);go_wp2;refine bodyPost_ret (v:=.tuple #[.agg #[.int .i64 2,.int .i64 0,.slice none 0 0,.int .i64 (lv:Int),.string ⟨#[]⟩,.string r,.bool false,.slice none 0 0],.int .i64 ((k:Int)+1+1)]) (by have z0:=z0.out;have z1:=z1.out;have z2:=z2.out;have z3:=z3.out;have z4:=z4.out;have z5:=z5.out;have z6:=z6.out;have z7:=z7.out;simp[results,results123,go_sem,z0,z1,z2,z3,z4,z5,z6,z7]) rfl ⟨?_,?_⟩
     ·rw[hres2.out,jy.out];rfl
     ·exact zmv (jm.trans (dw.out.mono (by omega))) (Qc _) (by omega) _ _ _ _ _ _ _ _ _
    ·have hres2:Hid (S.za8 (dat (s0::ts))=(.mk 1 0 [] (Lib.trimRightB (S.zaj (dat ((s0::ts).take (k+1)))) 32) false [],k+1)):=hid (by rw[hres.out,if_neg hl0]);go_wp2;refine bodyPost_ret (v:=.tuple #[.agg #[.int .i64 1,.int .i64 0,.slice none 0 0,.int .i64 0,.string ⟨#[]⟩,.string r,.bool false,.slice none 0 0],.int .i64 ((k:Int)+1)]) (by have z0:=z0.out;have z1:=z1.out;have z2:=z2.out;have z3:=z3.out;have z4:=z4.out;have z5:=z5.out;have z6:=z6.out;have z7:=z7.out;simp[results,results123,go_sem,z0,z1,z2,z3,z4,z5,z6,z7]) rfl ⟨?_,?_⟩
     ·rw[hres2.out,jy.out];rfl
     ·exact zmv (jm.trans (dw.out.mono (by omega))) (Qc _) (by omega) _ _ _ _ _ _ _ _ _
  ·have hkl:k=ts.length:=by omega
   have hps:S.zcb (dat ts)=k:=zfp _ k gq.out (by rw[Qr (by rw[zai];omega)];simp);have hres2:Hid (S.za8 (dat (s0::ts))=(.mk 1 0 [] (Lib.trimRightB (S.zaj (dat ((s0::ts).take (k+1)))) 32) false [],k+1)):=hid (by
    unfold S.za8;rw[show (dat (s0::ts)).tail=dat ts from rfl,hps,hdt.out];have:(dat (s0::ts))[k+1]?=none:=(by rw[Qr];rw[zai,Qd];omega);simp only[this])
   have hne1:((k:Int)+1 == (ts.length:Int)+1)=true:=by rw[beq_iff_eq];omega
   clear hps hkl;go_wp2_with (fail);refine(ng.out _ dh.out).mono ?_;rintro e w2⟨r,rfl,hr,hb2⟩;have bg:=dh.out.trans (hb2.mono hBw);have dw:=hid bg;have hk1:=bg.block w.heap.size (by omega);rw[jg.out] at hk1;have kg:w.heap.size<w2.heap.size:=by have:=bg.size;have:=dx.out;omega
   have z0:=hid (λv0 v1 v2 v3 v4 v5 v6 v7 X=>za0 (zdh hk1 (by omega) v0 v1 v2 v3 v4 v5 v6 v7 X) 0 _ rfl);have z1:=hid (λv0 v1 v2 v3 v4 v5 v6 v7 X=>za0 (zdh hk1 (by omega) v0 v1 v2 v3 v4 v5 v6 v7 X) 1 _ rfl);have z2:=hid (λv0 v1 v2 v3 v4 v5 v6 v7 X=>za0 (zdh hk1 (by omega) v0 v1 v2 v3 v4 v5 v6 v7 X) 2 _ rfl);have z3:=hid (λv0 v1 v2 v3 v4 v5 v6 v7 X=>za0 (zdh hk1 (by omega) v0 v1 v2 v3 v4 v5 v6 v7 X) 3 _ rfl);have z4:=hid (λv0 v1 v2 v3 v4 v5 v6 v7 X=>za0 (zdh hk1 (by omega) v0 v1 v2 v3 v4 v5 v6 v7 X) 4 _ rfl);have z5:=hid (λv0 v1 v2 v3 v4 v5 v6 v7 X=>za0 (zdh hk1 (by omega) v0 v1 v2 v3 v4 v5 v6 v7 X) 5 _ rfl);have z6:=hid (λv0 v1 v2 v3 v4 v5 v6 v7 X=>za0 (zdh hk1 (by omega) v0 v1 v2 v3 v4 v5 v6 v7 X) 6 _ rfl);have z7:=hid (λv0 v1 v2 v3 v4 v5 v6 v7 X=>za0 (zdh hk1 (by omega) v0 v1 v2 v3 v4 v5 v6 v7 X) 7 _ rfl);have d0:=za0 hk1 0 _ rfl;have d1:=za0 hk1 1 _ rfl;have d2:=za0 hk1 2 _ rfl;have d3:=za0 hk1 3 _ rfl;have d4:=za0 hk1 4 _ rfl;have d5:=za0 hk1 5 _ rfl;have d6:=za0 hk1 6 _ rfl;have d7:=za0 hk1 7 _ rfl;have g0:=za7 hk1;have jy:Hid (Value.string r=.string (S.B (Lib.trimRightB (S.zaj (dat ((s0::ts).take (k+1)))) 32))):=hid (by rw[<-hr.out,S.zbp]);have kr:w.heap.size≠w2.heap.size:=by omega
   have jk:w2.heap.size≠w.heap.size:=by omega
   clear hk1 bg hb2;go_wp2;refine bodyPost_ret (v:=.tuple #[.agg #[.int .i64 1,.int .i64 0,.slice none 0 0,.int .i64 0,.string ⟨#[]⟩,.string r,.bool false,.slice none 0 0],.int .i64 ((k:Int)+1)]) (by have z0:=z0.out;have z1:=z1.out;have z2:=z2.out;have z3:=z3.out;have z4:=z4.out;have z5:=z5.out;have z6:=z6.out;have z7:=z7.out;simp[results,results123,go_sem,z0,z1,z2,z3,z4,z5,z6,z7]) rfl ⟨?_,?_⟩
   ·rw[hres2.out,jy.out];rfl
   ·exact zmv (jm.trans (dw.out.mono (by omega))) (Qc _) (by omega) _ _ _ _ _ _ _ _ _
end Go.Proofs.YtlojgpkajkedeaaGreatDoor
