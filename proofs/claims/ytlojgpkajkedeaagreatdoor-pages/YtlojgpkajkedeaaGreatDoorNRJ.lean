import Derived.Test.YtlojgpkajkedeaaGreatDoorNE5
import Derived.Test.YtlojgpkajkedeaaGreatDoorNW13
import Derived.Test.YtlojgpkajkedeaaGreatDoorNStr5
import Derived.Test.YtlojgpkajkedeaaGreatDoorNRH
set_option maxHeartbeats 16000000
set_option maxRecDepth 100000
namespace Go.Proofs.YtlojgpkajkedeaaGreatDoor
open Go.RowKit Go.Proofs.Tryz
theorem zst (b o cap:Nat)(p0:Ln)(ts:List Ln)(c:UInt8)(n:Nat)(info:ByteArray)(w:World)(hrow:RowL w b o (p0::ts))(hbw:b<w.heap.size)(hn:1<=n)(hn2:n<=1000000):Calls prog 96 #[.slice (some ⟨b,o,none⟩) (ts.length+1) cap,.int .u8 (c.toNat:Int),.int .i64 (n:Nat),.string info] w λe w'=>e=.returned (.tuple #[.agg #[.int .i64 0,.int .i64 3,.int .i64 0,.string info,.string (S.B (S.zam (S.indent p0.1.data.toList) ((datL ts).take (S.zb2 c n (datL ts))))),.int .i64 0,.slice none 0 0],.int .i64 ((min (S.zb2 c n (datL ts)+1+1) (ts.length+1):Nat):Int)])/\Below w.heap.size w w':=by
 obtain⟨W0,hW0,hb0,hz0,hx0⟩:=zlx w;have hlen:=hrow.len;simp only[Qd] at hlen;have gq:=hrow.below hb0 hbw;have hsz0:=hrow.size 0 p0 rfl;have hil:=S.zby p0.1.data.toList;rw[S.lda] at hil;have htot:tot (zcl ts)<=1000000:=by
  have:=hrow.2;simp only[zcl,Qs,tot,List.sum_cons] at this ⊢;omega
 obtain⟨s0,z0⟩:=p0;dsimp only at hsz0 hil ⊢;obtain⟨ind,gy⟩:=Qyy (S.indent s0.data.toList);rw[gy] at hil ⊢;have hI0:Hid (∀wx,Calls prog 88 #[.string s0] wx λe w'=>e=.returned (.int .i64 (ind:Nat))/\w'=wx):=hid (λwx=>by
  have:=zcc s0 wx hsz0;rw[gy] at this;exact this)
 have dh:=hid gq;have jq:=hid hx0;have jg:=hid hb0;have kg:=hid hW0;have hbW0:b<W0.heap.size:=by omega
 have dx:w.heap.size<W0.heap.size:=by omega
 clear hW0 hb0 hx0 hrow gq gy hz0;go_enter func96,ntmps96;go_upto_region 1 with fail
 rw[<-kg.out];go_wp2;go_loopw [10,11,12] (λtv i _ wr=>∃k:Nat,k<=ts.length/\i=.int .i64 ((k:Int)+1)/\tv=.string (S.B (S.zam ind ((datL ts).take k)))/\Hid ((∀j,j<k->((datL ts)[j]?.map (S.zcg c n))=some false)/\Below W0.heap.size W0 wr)) (λ_ i _ _=>ts.length+1-(intOf i).toNat)
 case atStart=>exact⟨0,Qt _,rfl,rfl,hid ⟨by intro j hj;omega,Below.refl _ _⟩⟩
 case round=>
  obtain⟨k,hk,rfl,rfl,hrel'⟩:=hrel;obtain⟨hall,hbr⟩:=hrel'.out;have jl:=hid hbr;have hw1:w.heap.size<wr.heap.size:=Qh dx hbr.size;have jk:=(hbr.block w.heap.size dx).trans jq.out;have bg:=hid jk;clear hrel';by_cases hlt:k<ts.length
  ·obtain⟨p,hp⟩:∃p,ts[k]?=some p:=⟨ts[k],Qg hlt⟩;have hp1:(((s0,z0):Ln)::ts)[k+1]?=some p:=by simpa using hp
   have hc:=(dh.out.1 (k+1) p hp1).1;have hsz:=dh.out.size (k+1) p hp1;have hd:=zcd ts k p hp;have hsn:=zh9 ind (zcl ts) k p.1 (by simp[zcl,hp]);have hle:=zit ind (zcl ts) (k+1);have hdat:dat (zcl ts)=datL ts:=rfl;rw[hdat] at hsn hle;have fq:=(dh.out.1 0 (s0,z0) rfl).1;have dw:=S.zby p.1.data.toList;rw[S.lda] at dw;obtain⟨s,z⟩:=p;dsimp only at hc hsz hd hsn fq dw;obtain⟨t,ht⟩:=Qyy (S.indent s.data.toList);obtain⟨mn,hmn⟩:=Qyy (min ind t);have jm:=zsf s c n wr hsz hn hn2;obtain⟨cl,hcl⟩:=Qyy (S.zcg c n s.data.toList);rw[hcl] at jm;have hCH:Hid (Calls prog 141 #[.string s,.int .u8 (c.toNat:Int),.int .i64 (n:Nat)] wr λe w'=>e=.returned (.bool cl)/\wr=w'):=hid (jm.mono (λe w' ⟨h1,h2⟩=>⟨h1,h2.symm⟩));have hcr:wr.cell? ⟨b,o+(k+1)*2,none⟩=some (.string s):=(hbr.cell (p:=⟨b,o+(k+1)*2,none⟩) hbW0).trans hc;have hJ0:(0:Int)<=(k:Int)+1:=by omega
   have ny:(k:Int)+1<(ts.length:Int)+1:=by omega
   have mh:((k:Int)+1).toNat=k+1:=by omega
   obtain⟨T0,hT0⟩:=Qyy (S.zam ind ((datL ts).take k));cases cl
   ·have jh:Hid (∀j,j<k+1->((datL ts)[j]?.map (S.zcg c n))=some false):=hid (by
     intro j hj;by_cases e:j=k
     ·subst e;rw[hd,Option.map_some,hcl]
     ·exact hall j (by omega))
    haveI hNE:Nonempty (Bk wr):=⟨⟨wr,Below.refl _ _⟩⟩;have jd:b<wr.heap.size:=Qh hbW0 hbr.size;have jw:wr.cell? ⟨b,o,none⟩=some (.string s0):=(hbr.cell (p:=⟨b,o,none⟩) hbW0).trans (by simpa using fq);have C0:∀kk:Bk wr,kk.w.cell? ⟨b,o,none⟩=some (.string s0):=λkk=>(kk.h.cell (p:=⟨b,o,none⟩) jd).trans jw;have C1:∀kk:Bk wr,kk.w.cell? ⟨b,o+(k+1)*2,none⟩=some (.string s):=λkk=>(kk.h.cell (p:=⟨b,o+(k+1)*2,none⟩) jd).trans hcr;have lq:Hid (∀kk:Bk wr,Calls prog 88 #[.string s0] kk.w λe w'=>e=.returned (.int .i64 (ind:Nat))/\Below wr.heap.size wr w'):=hid (λkk=>(hI0.out kk.w).mono (λe w' ⟨h1,h2⟩=>⟨h1,by rw[h2];exact kk.h⟩));have lg:Hid (∀kk:Bk wr,Calls prog 88 #[.string s] kk.w λe w'=>e=.returned (.int .i64 (t:Nat))/\Below wr.heap.size wr w'):=hid (λkk=>by
     have:=zcc s kk.w hsz;rw[ht] at this;exact this.mono (λe w' ⟨h1,h2⟩=>⟨h1,by rw[h2];exact kk.h⟩))
    obtain⟨be,hbe⟩:=Qyy (S.B (s.data.toList.drop mn));have hB':Hid (∀kk:Bk wr,Calls prog 132 #[.string s,.int .i64 (mn:Nat)] kk.w λe w'=>e=.returned (.string be)/\Below wr.heap.size wr w'):=hid (λkk=>by
     have:=zid s mn kk.w (by rw[ht] at dw;omega);rw[hbe] at this;exact this.mono (λe w' ⟨h1,h2⟩=>⟨h1,by rw[h2];exact kk.h⟩))
    obtain⟨T1,hT1⟩:=Qyy (S.zam ind ((datL ts).take (k+1)));rw[hT0,hT1,ht,hmn] at hsn;rw[hT1] at hle;rw[hT0];have hlen1:=congrArg List.length hsn;simp only[Qa,List.length_singleton] at hlen1;have jy:be.size=(s.data.toList.drop mn).length:=(by rw[<-hbe,S.zav]);obtain⟨V1,hV1⟩:=Qyy (S.B T0++be);have ng:Op.stringOp .add (S.B T0) be=pure (.string V1):=(by rw[<-hV1];exact zn2 _ _ (by rw[S.zav];omega));have mq:Op.stringOp .add V1 ⟨#[10]⟩=pure (.string (S.B T1)):=by
     rw[<-hV1,zn2 _ _ (by rw[ByteArray.size_append,S.zav];show T0.length+be.size+1<=_;omega)];congr 2
     rw[hsn,<-hbe];unfold S.B;apply ByteArray.ext
     simp[ByteArray.data_append]
    have pq:min (ind:Int) (t:Int)=(mn:Int):=(by omega);have kr:=hid hT1;have hq:Hid (∀kq:Bk wr,Below W0.heap.size W0 kq.w):=hid (λkq=>jl.out.trans (kq.h.mono jl.out.size));clear hall hbr hp hp1 hc hd hsn hle hdat fq dw ht hmn jm hcl hT0 hbe hT1 hlen1 jy hV1 jk;go_wp2_with (fail);refine hCH.out.mono ?_;rintro e w'⟨rfl,rfl⟩;go_wp2_with (fail);refine zar (by kernel_rfl) (by kernel_rfl) ?_;repeat (go_big_quiet_step ((rename_i kk;first|exact(lq.out kk).mono (λe w' h=>⟨h.1,⟨w',h.2⟩,rfl⟩)|exact(lg.out kk).mono (λe w' h=>⟨h.1,⟨w',h.2⟩,rfl⟩)|exact(hB'.out kk).mono (λe w' h=>⟨h.1,⟨w',h.2⟩,rfl⟩))))
    refine wpQuiet_nil ?_;intro _ hw';obtain⟨kq,hw''⟩:=hw';subst hw'';go_wp2;go_roundw
    case rel=>exact⟨k+1,by omega,by go_num,by rw[kr.out],hid ⟨jh.out,hq.out kq⟩⟩
    case measure=>simp[intOf];omega
   ·have hfs:Hid (S.zb2 c n (datL ts)=k):=hid (zet c n _ k hall (by rw[hd,Option.map_some,hcl];simp));obtain⟨t0,ht0⟩:=Qyy (S.B T0);rw[hT0,ht0];have d0:=za0 bg.out 0 _ rfl;have d1:=za0 bg.out 1 _ rfl;have d2:=za0 bg.out 2 _ rfl;have d3:=za0 bg.out 3 _ rfl;have d4:=za0 bg.out 4 _ rfl;have d5:=za0 bg.out 5 _ rfl;have d6:=za0 bg.out 6 _ rfl;have g0:=za7 bg.out;have hz:=hid (set7 bg.out (.int .i64 0) (.int .i64 3) (.int .i64 0) (.string info) (.string t0) (.int .i64 0) (.slice none 0 0));have hbz:=hid (zbb (N:=w.heap.size) (jg.out.trans (jl.out.mono (Nat.le_of_lt dx))) (Qc _) (.int .i64 0) (.int .i64 3) (.int .i64 0) (.string info) (.string t0) (.int .i64 0) (.slice none 0 0));have hres:Hid (S.B (S.zam ind ((datL ts).take (S.zb2 c n (datL ts))))=t0):=hid (by rw[hfs.out,hT0,ht0]);clear hall hbr hp hp1 hc hd hsn hle hdat fq dw ht hmn jm hcl hT0 jk ht0;go_wp2_with (fail);refine hCH.out.mono ?_;rintro e w'⟨rfl,rfl⟩;go_wp2;refine bodyPost_ret (v:=.tuple #[.agg #[.int .i64 0,.int .i64 3,.int .i64 0,.string info,.string t0,.int .i64 0,.slice none 0 0],.int .i64 ((k:Int)+1+1)]) (by have z0:=za0 hz.out 0 _ rfl;have z1:=za0 hz.out 1 _ rfl;have z2:=za0 hz.out 2 _ rfl;have z3:=za0 hz.out 3 _ rfl;have z4:=za0 hz.out 4 _ rfl;have z5:=za0 hz.out 5 _ rfl;have z6:=za0 hz.out 6 _ rfl;simp[results,results96,go_sem,z0,z1,z2,z3,z4,z5,z6]) rfl ?_;exact⟨by rw[hres.out,hfs.out,Nat.min_eq_left (by omega)];rfl,hbz.out⟩
  ·have hke:k=ts.length:=by omega
   subst hke;have hfs:Hid (S.zb2 c n (datL ts)=ts.length):=hid (zet c n _ _ hall (by rw[Qr (by rw[zas];exact Qc _)];simp));obtain⟨t0,ht0⟩:=Qyy (S.B (S.zam ind ((datL ts).take ts.length)));rw[ht0];have d0:=za0 bg.out 0 _ rfl;have d1:=za0 bg.out 1 _ rfl;have d2:=za0 bg.out 2 _ rfl;have d3:=za0 bg.out 3 _ rfl;have d4:=za0 bg.out 4 _ rfl;have d5:=za0 bg.out 5 _ rfl;have d6:=za0 bg.out 6 _ rfl;have g0:=za7 bg.out;have hz:=hid (set7 bg.out (.int .i64 0) (.int .i64 3) (.int .i64 0) (.string info) (.string t0) (.int .i64 0) (.slice none 0 0));have hbz:=hid (zbb (N:=w.heap.size) (jg.out.trans (jl.out.mono (Nat.le_of_lt dx))) (Qc _) (.int .i64 0) (.int .i64 3) (.int .i64 0) (.string info) (.string t0) (.int .i64 0) (.slice none 0 0));have hres:Hid (S.B (S.zam ind ((datL ts).take (S.zb2 c n (datL ts))))=t0):=hid (by rw[hfs.out,ht0]);have ny:¬(ts.length:Int)+1<(ts.length:Int)+1:=by omega
   clear hall hbr jk ht0;go_wp2;refine bodyPost_ret (v:=.tuple #[.agg #[.int .i64 0,.int .i64 3,.int .i64 0,.string info,.string t0,.int .i64 0,.slice none 0 0],.int .i64 ((ts.length:Int)+1)]) (by have z0:=za0 hz.out 0 _ rfl;have z1:=za0 hz.out 1 _ rfl;have z2:=za0 hz.out 2 _ rfl;have z3:=za0 hz.out 3 _ rfl;have z4:=za0 hz.out 4 _ rfl;have z5:=za0 hz.out 5 _ rfl;have z6:=za0 hz.out 6 _ rfl;simp[results,results96,go_sem,z0,z1,z2,z3,z4,z5,z6]) rfl ?_;exact⟨by rw[hres.out,hfs.out,Nat.min_eq_right (by omega)]<;>rfl,hbz.out⟩
def WOK (C:List UInt8->List Rn->Prop):Prop:=∀(s:ByteArray) (w:World),s.size<=1000000 ->
 Calls prog 95 #[.string s] w λe w'=>∃v ns,e=.returned v/\RepN w' (λx=>w.heap.size<=x/\x<w'.heap.size) v ns/\Hid (C s.data.toList ns)/\Below w.heap.size w w'
theorem zho {w:World}{N:Nat}(v0 v1 v2 v3 v4 v5 v6:Value):(((((((w.setCell ⟨N,0,none⟩ v0).setCell ⟨N,1,none⟩ v1).setCell ⟨N,2,none⟩ v2).setCell ⟨N,3,none⟩ v3).setCell ⟨N,4,none⟩ v4).setCell ⟨N,5,none⟩ v5).setCell ⟨N,6,none⟩ v6).heap.size=w.heap.size:=by simp[World.setCell]
theorem zcw {w:World}{A:Nat->Prop}{v:Value}{ns:List Rn}{N:Nat}(h:RepN w A v ns)(hA:∀x,A x->x≠N)(v0 v1 v2 v3 v4 v5 v6:Value):RepN (((((((w.setCell ⟨N,0,none⟩ v0).setCell ⟨N,1,none⟩ v1).setCell ⟨N,2,none⟩ v2).setCell ⟨N,3,none⟩ v3).setCell ⟨N,4,none⟩ v4).setCell ⟨N,5,none⟩ v5).setCell ⟨N,6,none⟩ v6) A v ns:=
 h.move (λx hx=>hx) (λx hx=>by
  have:=hA x hx;iterate 7 rw[Below.heap_setCell _ _ _ _ (by simpa using this)])
theorem zn8 (l:List (List UInt8))(x:List UInt8)(h:l≠[]):S.zaj (l++[x])=S.zaj l++10::x.drop (S.indent x):=by
 induction l with
 | nil=>exact absurd rfl h
 | cons y r ih=>
  cases r with
  | nil=>simp[S.zaj]
  | cons z t=>
   have:=ih (by simp);simp only[List.cons_append] at this ⊢;simp only[S.zaj,this,Qp,List.cons_append]
theorem znb (C:List UInt8->List Rn->Prop)(hW:WOK C)(b o cap:Nat)(p0:Ln)(ts:List Ln)(w:World)(hrow:RowL w b o (p0::ts))(hbw:b<w.heap.size):Calls prog 99 #[.slice (some ⟨b,o,none⟩) (ts.length+1) cap] w λe w'=>∃kv ns,e=.returned (.tuple #[zon (.nd (S.za8 (datL (p0::ts))).1.kind (S.za8 (datL (p0::ts))).1.n [] [] 0 ns) kv,.int .i64 ((S.za8 (datL (p0::ts))).2:Nat)])/\RepN w' (λx=>w.heap.size<=x/\x<w'.heap.size) kv ns/\Hid (C (S.za8 (datL (p0::ts))).1.text ns)/\Below w.heap.size w w':=by
 obtain⟨W0,hW0,hb0,hz0,hx0⟩:=zlx w;have hlen:=hrow.len;simp only[Qd] at hlen;have fq:=hrow.below hb0 hbw;have hsz0:=hrow.size 0 p0 rfl;have hdc:datL (p0::ts)=p0.1.data.toList::datL ts:=rfl;have xg:Hid (∀k,(S.zaj ((datL (p0::ts)).take k)).length<=1000000):=hid (λk=>by
  rw[<-zlr,zfe];have h1:=join_le (zcl ((p0::ts).take k));have h2:=(hrow.take k).2;rw[show dat (zcl ((p0::ts).take k))=datL ((p0::ts).take k) from rfl] at h1;omega)
 have ny:Hid (∀k,S.zcb (datL ts)=k->∀E,Lib.trimRightB (S.zaj ((datL (p0::ts)).take (k+1))) 32=E->((datL ts)[k]?=none\/∃x,(datL ts)[k]?=some x/\S.zab x=0)->S.za8 (datL (p0::ts))=(.mk 1 0 [] E false [],k+1)):=hid (λk hk E hE h=>by
  unfold S.za8;dsimp only;rw[hdc,List.tail_cons,hk];rw[hdc] at hE;rw[hE,List.getElem?_cons_succ];rcases h with h|⟨x,h,h2⟩
  ·rw[h]
  ·rw[h];dsimp only;rw[if_neg (by omega)])
 have vg:Hid (∀k,S.zcb (datL ts)=k->∀E,Lib.trimRightB (S.zaj ((datL (p0::ts)).take (k+1))) 32=E->∀x,(datL ts)[k]?=some x->0<S.zab x->S.za8 (datL (p0::ts))=(.mk 2 (S.zab x) [] E false [],k+1+1)):=hid (λk hk E hE x h h2=>by
  unfold S.za8;dsimp only;rw[hdc,List.tail_cons,hk];rw[hdc] at hE;rw[hE,List.getElem?_cons_succ,h];dsimp only;rw[if_pos h2])
 obtain⟨PR,wh⟩:=Qyy (S.za8 (datL (p0::ts)));rw[wh] at ny vg ⊢;have hRe:=zfu p0.1 W0 hsz0;have hc0:W0.cell? ⟨b,o,none⟩=some (.string p0.1):=by simpa using (fq.1 0 p0 rfl).1
 have pq:S.zaj ((datL (p0::ts)).take (0+1))=p0.1.data.toList.drop (S.indent p0.1.data.toList):=by rw[hdc];rfl
 rw[<-pq] at hRe;have jl:Hid (Calls prog 128 #[.string p0.1] W0 λe w'=>e=.returned (.string (S.B (S.zaj ((datL (p0::ts)).take (0+1)))))/\W0=w'):=hid (hRe.mono (λe w' ⟨h1,h2⟩=>⟨h1,h2.symm⟩));have gy:=hid fq;have qp:=hid hW;have jg:=hid hx0;have jk:=hid hb0;have qx:=hid hW0;have hbW0:b<W0.heap.size:=by omega
 have bg:w.heap.size<W0.heap.size:=by omega
 obtain⟨s0,z0⟩:=p0;dsimp only at hc0 jl hsz0;obtain⟨RW,tq⟩:=Qyy (datL (((s0,z0):Ln)::ts));have qz:Hid (∀k x,(datL ts)[k]?=some x->RW.take (k+1+1)=RW.take (k+1)++[x]/\RW.take (k+1)≠[]):=hid (λk x h=>by
  rw[<-tq,hdc];refine⟨?_,by simp⟩;rw[Qz,Qz,List.take_add_one,h];rfl)
 rw[tq] at ny vg jl xg;clear hW0 hb0 hx0 hrow fq hz0 hRe pq hdc wh hW tq;go_enter func99,ntmps99;go_upto_region 1 with fail
 rw[<-qx.out];go_wp2_with fail
 refine jl.out.mono ?_;rintro e w'⟨rfl,rfl⟩;go_wp2;go_loopw [4,5,6,7] (λcv nv lv _ wr=>∃k:Nat,k<=ts.length/\nv=.int .i64 ((k:Int)+1)/\lv=.int .i64 0/\cv=.string (S.B (S.zaj (RW.take (k+1))))/\Hid ((∀j,j<k->((datL ts)[j]?.map S.zco)=some false)/\Below W0.heap.size W0 wr)) (λ_ nv _ _ _=>ts.length+1-(intOf nv).toNat)
 case atStart=>exact⟨0,Qt _,rfl,rfl,rfl,hid ⟨by intro j hj;omega,Below.refl _ _⟩⟩
 case round=>
  obtain⟨k,hk,rfl,rfl,rfl,hrel'⟩:=hrel;obtain⟨hall,hbr⟩:=hrel'.out;obtain⟨dw,pz⟩:=Qzz (wr);subst pz;have lq:=xg.out (k+1);have qm:=hid hbr;clear hrel';by_cases hlt:k<ts.length
  ·obtain⟨p,hp⟩:∃p,ts[k]?=some p:=⟨ts[k],Qg hlt⟩;have hp1:(((s0,z0):Ln)::ts)[k+1]?=some p:=by simpa using hp
   have hc:=(gy.out.1 (k+1) p hp1).1;have hsz:=gy.out.size (k+1) p hp1;have hd:=zcd ts k p hp;have htk:=qz.out k _ hd;obtain⟨s,z⟩:=p;dsimp only at hc hsz hd htk;obtain⟨lv,hlv⟩:=Qyy (S.zab s.data.toList);obtain⟨en,hen⟩:=Qyy (S.zys s.data.toList);have kr:=zn7 s dw hsz;have mq:=zyc s dw hsz;rw[hlv] at kr;rw[hen] at mq;have hpar:S.zco s.data.toList=(decide (0<lv)||en):=by rw[S.zyd,hlv,hen]
   have qg:lv<=2:=by rw[<-hlv];unfold S.zab;split;omega;split<;>omega
   have qj:b<dw.heap.size:=Qh hbW0 hbr.size;have hcr:dw.cell? ⟨b,o+(k+1)*2,none⟩=some (.string s):=(hbr.cell (p:=⟨b,o+(k+1)*2,none⟩) hbW0).trans hc;have ng:Hid (Calls prog 143 #[.string s] dw λe w'=>e=.returned (.int .i64 (lv:Nat))/\dw=w'):=hid (kr.mono (λe w' ⟨h1,h2⟩=>⟨h1,h2.symm⟩));have vv:Hid (Calls prog 144 #[.string s] dw λe wQ=>e=.returned (.bool en)/\wQ.cell? ⟨b,o+(k+1)*2,none⟩=some (.string s)/\w.heap.size<wQ.heap.size/\Hid (Below W0.heap.size W0 wQ)):=hid (mq.mono (λe w' ⟨h1,h2⟩=>⟨h1,(h2.cell (p:=⟨b,o+(k+1)*2,none⟩) qj).trans hcr,by have:=h2.size;have:=qm.out.size;omega,hid (qm.out.trans (h2.mono qm.out.size))⟩));have hJ0:(0:Int)<=(k:Int)+1:=by omega
   have pq:(k:Int)+1<(ts.length:Int)+1:=by omega
   have yc:((k:Int)+1).toNat=k+1:=by omega
   obtain⟨J,hJ⟩:=Qyy (S.zaj (RW.take (k+1)));rw[hJ] at lq ⊢;obtain⟨E,hE⟩:=Qyy (Lib.trimRightB J 32);have hEl:E.length<=1000000:=by rw[<-hE];have:=S.zcm J 32;omega
   by_cases hl0:lv=0
   ·subst hl0;cases en
    ·have kg:Hid (∀j,j<k+1->((datL ts)[j]?.map S.zco)=some false):=hid (by
      intro j hj;by_cases e:j=k
      ·subst e;rw[hd,Option.map_some,hpar];rfl
      ·exact hall j (by omega))
     have qy:=zfu s dw hsz;obtain⟨rs,hrs⟩:=Qyy (S.B (s.data.toList.drop (S.indent s.data.toList)));have lg:Hid (∀wx,Calls prog 128 #[.string s] wx λe w'=>e=.returned (.string rs)/\wx=w'):=hid (λwx=>by
      have:=zfu s wx hsz;rw[hrs] at this;exact this.mono (λe w' ⟨h1,h2⟩=>⟨h1,h2.symm⟩))
     have wm:S.zaj (RW.take (k+1+1))=J++10::s.data.toList.drop (S.indent s.data.toList):=(by rw[htk.1,zn8 _ _ htk.2,hJ]);have yg:rs.size<=s.size:=(by rw[<-hrs,S.zav,Qf,S.lda];omega);obtain⟨V1,hV1⟩:=Qyy (S.B J ++ ⟨#[10]⟩);have yh:Op.stringOp .add (S.B J) ⟨#[10]⟩=pure (.string V1):=(by rw[<-hV1];exact zn2 _ _ (by rw[S.zav];show J.length+1<=_;omega));have qh:Op.stringOp .add V1 rs=pure (.string (S.B (S.zaj (RW.take (k+1+1))))):=by
      rw[<-hV1,zn2 _ _ (by rw[ByteArray.size_append,S.zav];show J.length+1+rs.size<=_;omega)];congr 2
      rw[wm,<-hrs];unfold S.B;apply ByteArray.ext
      simp[ByteArray.data_append]
     obtain⟨J2,hJ2⟩:=Qyy (S.zaj (RW.take (k+1+1)));rw[hJ2] at qh;have vk:=hid hJ2;clear hall hbr hp hp1 hc hd htk hlv hen kr mq hpar qy hrs wm hV1 hJ hE hJ2;go_wp2_with (fail);refine ng.out.mono ?_;rintro e w'⟨rfl,rfl⟩;go_wp2_with (fail);refine vv.out.mono ?_;rintro e wQ⟨rfl,vw,dh,jh⟩;go_wp2_with (fail);refine(lg.out wQ).mono ?_;rintro e w'⟨rfl,rfl⟩;go_wp2;go_roundw
     case rel=>exact⟨k+1,by omega,by go_num,rfl,by rw[vk.out],hid ⟨kg.out,jh.out⟩⟩
     case measure=>simp[intOf];omega
    ·have hps:S.zcb (datL ts)=k:=zfp _ k hall (by rw[hd,Option.map_some,hpar];simp);have hspec:=hid (ny.out k hps E (by rw[hJ];exact hE) (.inr ⟨_,hd,hlv⟩));clear hall hbr hp hp1 hc hd htk hlv hen kr mq hpar hJ hps;go_wp2_with (fail);refine ng.out.mono ?_;rintro e w'⟨rfl,rfl⟩;go_wp2_with (fail);refine vv.out.mono ?_;rintro e wQ⟨rfl,vw,dh,gq⟩;have jq:=hid ((gq.out.block w.heap.size bg).trans jg.out);have jh:=hid (jk.out.trans (gq.out.mono (Nat.le_of_lt bg)));have mh:Hid (Calls prog 130 #[.string (S.B J)] wQ λe w'=>e=.returned (.string (S.B E))/\wQ=w'):=hid (by
      have:=zfq (S.B J) wQ (by rw[S.zav];exact lq);rw[S.zaz,hE] at this;exact this.mono (λe w' ⟨h1,h2⟩=>⟨h1,h2.symm⟩))
     have jd:=hid (qp.out (S.B E) wQ (by rw[S.zav];exact hEl));rw[S.zaz] at jd;go_wp2_with (fail);refine mh.out.mono ?_;rintro e w'⟨rfl,rfl⟩;go_wp2_with (fail);refine jd.out.mono ?_;rintro e w2⟨kv,ns,rfl,hrep,hC,hb2⟩;obtain⟨ka,kn,kc,rfl⟩:=hrep.form;have hx2:=(hb2.block w.heap.size dh).trans jq.out;have hw2:w.heap.size<w2.heap.size:=Qh dh hb2.size;have d0:w2.cell? ⟨w.heap.size,0,none⟩=some (.int .i64 0):=za0 hx2 0 _ rfl;have d1:w2.cell? ⟨w.heap.size,1,none⟩=some (.int .i64 0):=za0 hx2 1 _ rfl;have d2:w2.cell? ⟨w.heap.size,2,none⟩=some (.int .i64 0):=za0 hx2 2 _ rfl;have d3:w2.cell? ⟨w.heap.size,3,none⟩=some (.string ⟨#[]⟩):=za0 hx2 3 _ rfl;have d4:w2.cell? ⟨w.heap.size,4,none⟩=some (.string ⟨#[]⟩):=za0 hx2 4 _ rfl;have d5:w2.cell? ⟨w.heap.size,5,none⟩=some (.int .i64 0):=za0 hx2 5 _ rfl;have d6:w2.cell? ⟨w.heap.size,6,none⟩=some (.slice none 0 0):=za0 hx2 6 _ rfl;have g0:=za7 hx2;have hz:=hid (set7 hx2 (.int .i64 0) (.int .i64 1) (.int .i64 0) (.string ⟨#[]⟩) (.string ⟨#[]⟩) (.int .i64 0) (.slice ka kn kc));have hbw2:Below w.heap.size w w2:=jh.out.trans (hb2.mono (Nat.le_of_lt dh));have hbz:=hid (zbb (N:=w.heap.size) hbw2 (Qc _) (.int .i64 0) (.int .i64 1) (.int .i64 0) (.string ⟨#[]⟩) (.string ⟨#[]⟩) (.int .i64 0) (.slice ka kn kc));have hrz:=hid (zcw hrep (N:=w.heap.size) (λx hx e=>by have:=hx.1;omega) (.int .i64 0) (.int .i64 1) (.int .i64 0) (.string ⟨#[]⟩) (.string ⟨#[]⟩) (.int .i64 0) (.slice ka kn kc));have jy:w.heap.size<=wQ.heap.size:=Nat.le_of_lt dh;clear hx2 hb2 hrep hbw2;go_wp2;refine bodyPost_ret (v:=.tuple #[.agg #[.int .i64 0,.int .i64 1,.int .i64 0,.string ⟨#[]⟩,.string ⟨#[]⟩,.int .i64 0,.slice ka kn kc],.int .i64 ((k:Int)+1)]) (by have z0:=za0 hz.out 0 _ rfl;have z1:=za0 hz.out 1 _ rfl;have z2:=za0 hz.out 2 _ rfl;have z3:=za0 hz.out 3 _ rfl;have z4:=za0 hz.out 4 _ rfl;have z5:=za0 hz.out 5 _ rfl;have z6:=za0 hz.out 6 _ rfl;simp[results,results99,go_sem,z0,z1,z2,z3,z4,z5,z6]) rfl ?_;exact⟨.slice ka kn kc,ns,by rw[hspec.out];rfl,hrz.out.move (λx hx=>⟨by have:=hx.1;omega,by rw[zho];exact hx.2⟩) (λ_ _=>rfl),hid (by rw[hspec.out];exact hC.out),hbz.out⟩
   ·have hl1:(0:Int)<(lv:Int):=(by omega);have hps:S.zcb (datL ts)=k:=zfp _ k hall (by rw[hd,Option.map_some,hpar,decide_eq_true (show 0<lv by omega)];simp);have hspec:=vg.out k hps E (by rw[hJ];exact hE) _ hd (by omega);rw[hlv] at hspec;obtain⟨jm,jw⟩:∃jm:Int,(lv:Int)=jm:=⟨_,rfl⟩;rw[jw] at hspec ng hl1;have dx:=hid hspec;clear hspec;have hspec:=dx;have xq:IntKind.i64.wrap ((k:Int)+1+1)=(k:Int)+1+1:=(by rw[IntKind.wrap_i64];omega);clear dx hall hbr hp hp1 hc hd htk hlv hen kr mq hpar hJ hps jw hl0 qg;go_wp2_with (fail);refine ng.out.mono ?_;rintro e w'⟨rfl,rfl⟩;go_wp2_with (fail);refine vv.out.mono ?_;rintro e wQ⟨rfl,vw,dh,gq⟩;have jq:=hid ((gq.out.block w.heap.size bg).trans jg.out);have jh:=hid (jk.out.trans (gq.out.mono (Nat.le_of_lt bg)));have mh:Hid (Calls prog 130 #[.string (S.B J)] wQ λe w'=>e=.returned (.string (S.B E))/\wQ=w'):=hid (by
     have:=zfq (S.B J) wQ (by rw[S.zav];exact lq);rw[S.zaz,hE] at this;exact this.mono (λe w' ⟨h1,h2⟩=>⟨h1,h2.symm⟩))
    have jd:=hid (qp.out (S.B E) wQ (by rw[S.zav];exact hEl));rw[S.zaz] at jd;go_wp2_with (fail);refine mh.out.mono ?_;rintro e w'⟨rfl,rfl⟩;go_wp2_with (fail);refine jd.out.mono ?_;rintro e w2⟨kv,ns,rfl,hrep,hC,hb2⟩;obtain⟨ka,kn,kc,rfl⟩:=hrep.form;have hx2:=(hb2.block w.heap.size dh).trans jq.out;have hw2:w.heap.size<w2.heap.size:=Qh dh hb2.size;have d0:w2.cell? ⟨w.heap.size,0,none⟩=some (.int .i64 0):=za0 hx2 0 _ rfl;have d1:w2.cell? ⟨w.heap.size,1,none⟩=some (.int .i64 0):=za0 hx2 1 _ rfl;have d2:w2.cell? ⟨w.heap.size,2,none⟩=some (.int .i64 0):=za0 hx2 2 _ rfl;have d3:w2.cell? ⟨w.heap.size,3,none⟩=some (.string ⟨#[]⟩):=za0 hx2 3 _ rfl;have d4:w2.cell? ⟨w.heap.size,4,none⟩=some (.string ⟨#[]⟩):=za0 hx2 4 _ rfl;have d5:w2.cell? ⟨w.heap.size,5,none⟩=some (.int .i64 0):=za0 hx2 5 _ rfl;have d6:w2.cell? ⟨w.heap.size,6,none⟩=some (.slice none 0 0):=za0 hx2 6 _ rfl;have g0:=za7 hx2;have hz:=hid (set7 hx2 (.int .i64 0) (.int .i64 2) (.int .i64 jm) (.string ⟨#[]⟩) (.string ⟨#[]⟩) (.int .i64 0) (.slice ka kn kc));have hbw2:Below w.heap.size w w2:=jh.out.trans (hb2.mono (Nat.le_of_lt dh));have hbz:=hid (zbb (N:=w.heap.size) hbw2 (Qc _) (.int .i64 0) (.int .i64 2) (.int .i64 jm) (.string ⟨#[]⟩) (.string ⟨#[]⟩) (.int .i64 0) (.slice ka kn kc));have hrz:=hid (zcw hrep (N:=w.heap.size) (λx hx e=>by have:=hx.1;omega) (.int .i64 0) (.int .i64 2) (.int .i64 jm) (.string ⟨#[]⟩) (.string ⟨#[]⟩) (.int .i64 0) (.slice ka kn kc));have jy:w.heap.size<=wQ.heap.size:=Nat.le_of_lt dh;clear hx2 hb2 hrep hbw2;go_wp2;refine bodyPost_ret (v:=.tuple #[.agg #[.int .i64 0,.int .i64 2,.int .i64 jm,.string ⟨#[]⟩,.string ⟨#[]⟩,.int .i64 0,.slice ka kn kc],.int .i64 ((k:Int)+1+1)]) (by have z0:=za0 hz.out 0 _ rfl;have z1:=za0 hz.out 1 _ rfl;have z2:=za0 hz.out 2 _ rfl;have z3:=za0 hz.out 3 _ rfl;have z4:=za0 hz.out 4 _ rfl;have z5:=za0 hz.out 5 _ rfl;have z6:=za0 hz.out 6 _ rfl;simp[results,results99,go_sem,z0,z1,z2,z3,z4,z5,z6]) rfl ?_;exact⟨.slice ka kn kc,ns,by rw[hspec.out];rfl,hrz.out.move (λx hx=>⟨by have:=hx.1;omega,by rw[zho];exact hx.2⟩) (λ_ _=>rfl),hid (by rw[hspec.out];exact hC.out),hbz.out⟩
  ·have hke:k=ts.length:=by omega
   subst hke;have hps:S.zcb (datL ts)=ts.length:=zfp _ _ hall (by rw[Qr (by rw[zas];exact Qc _)];simp);obtain⟨J,hJ⟩:=Qyy (S.zaj (RW.take (ts.length+1)));rw[hJ] at lq ⊢;obtain⟨E,hE⟩:=Qyy (Lib.trimRightB J 32);have hEl:E.length<=1000000:=by rw[<-hE];have:=S.zcm J 32;omega
   have hspec:=hid (ny.out ts.length hps E (by rw[hJ];exact hE) (.inl (Qr (by rw[zas];exact Qc _))));have pq:¬(ts.length:Int)+1<(ts.length:Int)+1:=by omega
   have dh:w.heap.size<dw.heap.size:=Qh bg hbr.size;have jq:=hid ((hbr.block w.heap.size bg).trans jg.out);have jh:=hid (jk.out.trans (hbr.mono (Nat.le_of_lt bg)));obtain⟨wQ,qb⟩:=Qzz (dw);subst qb;clear hall hbr hJ hps;have mh:Hid (Calls prog 130 #[.string (S.B J)] wQ λe w'=>e=.returned (.string (S.B E))/\wQ=w'):=hid (by
    have:=zfq (S.B J) wQ (by rw[S.zav];exact lq);rw[S.zaz,hE] at this;exact this.mono (λe w' ⟨h1,h2⟩=>⟨h1,h2.symm⟩))
   have jd:=hid (qp.out (S.B E) wQ (by rw[S.zav];exact hEl));rw[S.zaz] at jd;go_wp2_with (fail);refine mh.out.mono ?_;rintro e w'⟨rfl,rfl⟩;go_wp2_with (fail);refine jd.out.mono ?_;rintro e w2⟨kv,ns,rfl,hrep,hC,hb2⟩;obtain⟨ka,kn,kc,rfl⟩:=hrep.form;have hx2:=(hb2.block w.heap.size dh).trans jq.out;have hw2:w.heap.size<w2.heap.size:=Qh dh hb2.size;have d0:w2.cell? ⟨w.heap.size,0,none⟩=some (.int .i64 0):=za0 hx2 0 _ rfl;have d1:w2.cell? ⟨w.heap.size,1,none⟩=some (.int .i64 0):=za0 hx2 1 _ rfl;have d2:w2.cell? ⟨w.heap.size,2,none⟩=some (.int .i64 0):=za0 hx2 2 _ rfl;have d3:w2.cell? ⟨w.heap.size,3,none⟩=some (.string ⟨#[]⟩):=za0 hx2 3 _ rfl;have d4:w2.cell? ⟨w.heap.size,4,none⟩=some (.string ⟨#[]⟩):=za0 hx2 4 _ rfl;have d5:w2.cell? ⟨w.heap.size,5,none⟩=some (.int .i64 0):=za0 hx2 5 _ rfl;have d6:w2.cell? ⟨w.heap.size,6,none⟩=some (.slice none 0 0):=za0 hx2 6 _ rfl;have g0:=za7 hx2;have hz:=hid (set7 hx2 (.int .i64 0) (.int .i64 1) (.int .i64 0) (.string ⟨#[]⟩) (.string ⟨#[]⟩) (.int .i64 0) (.slice ka kn kc));have hbw2:Below w.heap.size w w2:=jh.out.trans (hb2.mono (Nat.le_of_lt dh));have hbz:=hid (zbb (N:=w.heap.size) hbw2 (Qc _) (.int .i64 0) (.int .i64 1) (.int .i64 0) (.string ⟨#[]⟩) (.string ⟨#[]⟩) (.int .i64 0) (.slice ka kn kc));have hrz:=hid (zcw hrep (N:=w.heap.size) (λx hx e=>by have:=hx.1;omega) (.int .i64 0) (.int .i64 1) (.int .i64 0) (.string ⟨#[]⟩) (.string ⟨#[]⟩) (.int .i64 0) (.slice ka kn kc));have jy:w.heap.size<=wQ.heap.size:=Nat.le_of_lt dh;clear hx2 hb2 hrep hbw2;go_wp2;refine bodyPost_ret (v:=.tuple #[.agg #[.int .i64 0,.int .i64 1,.int .i64 0,.string ⟨#[]⟩,.string ⟨#[]⟩,.int .i64 0,.slice ka kn kc],.int .i64 ((ts.length:Int)+1)]) (by have z0:=za0 hz.out 0 _ rfl;have z1:=za0 hz.out 1 _ rfl;have z2:=za0 hz.out 2 _ rfl;have z3:=za0 hz.out 3 _ rfl;have z4:=za0 hz.out 4 _ rfl;have z5:=za0 hz.out 5 _ rfl;have z6:=za0 hz.out 6 _ rfl;simp[results,results99,go_sem,z0,z1,z2,z3,z4,z5,z6]) rfl ?_;exact⟨.slice ka kn kc,ns,by rw[hspec.out];rfl,hrz.out.move (λx hx=>⟨by have:=hx.1;omega,by rw[zho];exact hx.2⟩) (λ_ _=>rfl),hid (by rw[hspec.out];exact hC.out),hbz.out⟩
def zc4 (k:Int)(t:List UInt8)(lo:Bool):List UInt8:=if k=3 then t else if k=6 then (if lo=true then [108,111,111,115,101] else [116,105,103,104,116]) else []
mutual
def MatB (C:List UInt8->List Rn->Prop) (z:Int):S.Blk->Rn->Prop
 | .at_ li k n i t lo ks,.nd k' n' i' t' l' ks'=>k'=k/\n'=n/\i'=i/\t'=zc4 k t lo/\l'=z+li/\(if k=1\/k=2 then C t ks' else MatL C (z+li) ks ks')
def MatL (C:List UInt8->List Rn->Prop) (z:Int):List S.Blk->List Rn->Prop
 | [],[]=>True
 | b::r,n::s=>MatB C z b n/\MatL C z r s
 | [],_::_=>False
 | _::_,[]=>False
end
theorem MatL.append {C:List UInt8->List Rn->Prop}{z:Int}{a b:List S.Blk}{c d:List Rn}(h:MatL C z a c)(h2:MatL C z b d):MatL C z (a++b) (c++d):=by
 induction a generalizing c with
 | nil=>
  cases c with
  | nil=>exact h2
  | cons x r=>simp only[MatL] at h
 | cons y r ih=>
  cases c with
  | nil=>simp only[MatL] at h
  | cons x s=>
   simp only[MatL,List.cons_append] at h ⊢;exact⟨h.1,ih h.2⟩
def KidB (C:List UInt8->List Rn->Prop)(z:Int)(b:S.Blk)(ns:List Rn):Prop:=if b.kind=1\/b.kind=2 then C b.text ns else MatL C z b.kids ns
theorem z0o {C:List UInt8->List Rn->Prop}{z k:Int}{b:S.Blk}{ns:List Rn}(h:KidB C (z+k) b ns):MatB C z (b.put k) (.nd b.kind b.n b.info (zc4 b.kind b.text b.loose) (z+k) ns):=by
 cases b
 simp only[S.Blk.put,MatB];exact⟨rfl,rfl,rfl,rfl,trivial,h⟩
def ROK (C:List UInt8->List Rn->Prop)(d:Nat):Prop:=∀(b o cap:Nat) (ls:List Ln) (z:Int) (w:World),ls.length<=cap->b<w.heap.size->RowL w b o ls->Num z ls->bytes (datL ls)<d ->
 Calls prog 47 #[.slice (some ⟨b,o,none⟩) ls.length cap] w λe w'=>∃v ns,e=.returned (.tuple #[v,.bool (S.za2 d (datL ls)).2])/\RepN w' (λx=>w.heap.size<=x/\x<w'.heap.size) v ns/\Hid (MatL C z (S.za2 d (datL ls)).1 ns)/\Below w.heap.size w w'
theorem Num.z4t {z:Int}{l:List Ln}(h:Num z l)(s:ByteArray)(y:Int)(hy:y=z+(l.length:Int)):Num z (l++[(s,y)]):=by
 intro i p hi;by_cases hl:i<l.length
 ·rw[Qbd hl] at hi;exact h i p hi
 ·rw[Qu (by omega)] at hi;have hi0:i-l.length=0:=by have:=(Qb.1 hi).1;simp at this;omega
  rw[hi0] at hi;simp at hi;subst hi;show y=_;omega
theorem zs3 (l:List (List UInt8))(k:Nat)(h:∀j,j<k->(l[j]?.map S.zat)=some true)(he:(l[k]?.map S.zat)≠some true):S.zae l=(l.take k).map S.zcv:=by
 induction l generalizing k with
 | nil=>simp[S.zae]
 | cons x r ih=>
  cases k with
  | zero=>
   have:¬S.zat x=true:=by simpa using he
   simp[S.zae,this]
  | succ k=>
   have h0:S.zat x=true:=by simpa using h 0 (by omega)
   rw[S.zae,if_pos h0,ih k (λj hj=>by simpa using h (j+1) (by omega)) (by simpa using he)];rfl
theorem zl7 (l:List Ln)(p:Ln):tot (zcl (l++[p]))=tot (zcl l)+(p.1.size+1):=by simp[tot,zcl]
structure QRel (w W0:World)(ls:List Ln)(z:Int)(k:Nat)(os:List Ln)(a:Option Addr)(cp:Nat)(wr:World):Prop where
 len:os.length=k
 all:∀j,j<k->((datL ls)[j]?.map S.zat)=some true
 spec:datL os=((datL ls).take k).map S.zcv
 small:tot (zcl os)<=tot (zcl (ls.take k))
 num:Num z os
 own:wr.ownsRow W0.heap.size 116 2 (.slice a os.length cp) os.length (zc1 os)
 below:Below W0.heap.size W0 wr
theorem zvv (C:List UInt8->List Rn->Prop)(d:Nat)(hR:ROK C d)(b o cap:Nat)(ls:List Ln)(z:Int)(w:World)(hrow:RowL w b o ls)(hnum:Num z ls)(hbw:b<w.heap.size)(hq0:((datL ls)[0]?.map S.zat)=some true)(hd:bytes (S.zae (datL ls))<d):Calls prog 97 #[.slice (some ⟨b,o,none⟩) ls.length cap] w λe w'=>∃kv ns,e=.returned (.tuple #[zon (.nd 5 0 [] [] 0 ns) kv,.int .i64 ((S.zae (datL ls)).length:Nat)])/\RepN w' (λx=>w.heap.size<=x/\x<w'.heap.size) kv ns/\Hid (MatL C z (S.za2 d (S.zae (datL ls))).1 ns)/\Below w.heap.size w w':=by
 obtain⟨i0,hi,hi0,hi1,hi2⟩:=info_parts Tryz.zo6;obtain⟨W0,hW0,hb0,hz0,hx0⟩:=zlx w;have hlen:=hrow.len;have htot:=hrow.2;have gq:=hrow.below hb0 hbw;have dh:=hid gq;have jl:=hid hnum;have qj:=hid hR;have jm:=hid hx0;have kr:=hid hb0;have lg:=hid hW0;have jq:=hid hq0;have qg:=hid hd;have hbW0:b<W0.heap.size:=by omega
 have jd:w.heap.size<W0.heap.size:=by omega
 clear hW0 hb0 hx0 hrow gq hz0 hR hq0 hd hnum;go_enter func97,ntmps97;go_upto_region 1 with fail
 rw[<-lg.out];go_wp2;go_loopw [4,5,6,7] (λrv nv _ _ wr=>∃(k n':Nat) (a:Option Addr) (cp:Nat),k<=ls.length/\nv=.int .i64 k/\rv=.slice a n' cp/\Hid (∃os,n'=os.length/\QRel w W0 ls z k os a cp wr)) (λ_ nv _ _ _=>ls.length-(intOf nv).toNat)
 case atStart=>exact⟨0,0,none,0,Qt _,rfl,rfl,hid ⟨[],rfl,rfl,by intro j hj;omega,by simp[datL,dat,zcl],by simp[tot,zcl],λi p h=>by simp at h,World.ownsRow_nil _ _ _ _,Below.refl _ _⟩⟩
 case round=>
  obtain⟨k,n',a,cp,hk,rfl,rfl,hrel'⟩:=hrel;obtain⟨os,hn',hr0⟩:=hrel'.out;subst hn';have hr:=hid hr0;have qh:b<wr.heap.size:=Qh hbW0 hr0.below.size;have mq:W0.heap.size<=wr.heap.size:=hr0.below.size;have qb:os.length+1<=1000001:=by have:=hr0.len;omega
  clear hrel' hr0;by_cases hgo:((datL ls)[k]?.map S.zat)=some true
  ·have hlt:k<ls.length:=by
    rcases Nat.lt_or_ge k ls.length with h|h
    ·exact h
    ·rw[Qr (by rw[zas];exact h)] at hgo;simp at hgo
   obtain⟨p,hp⟩:∃p,ls[k]?=some p:=⟨ls[k],Qg hlt⟩;have hd:=zcd ls k p hp;rw[hd,Option.map_some] at hgo;have hq:S.zat p.1.data.toList=true:=Qy hgo;have hcA:=(dh.out.1 k p hp).1;have hcB:=(dh.out.1 k p hp).2;have hsz:=dh.out.size k p hp;have hny:=jl.out k p hp;obtain⟨s,y⟩:=p;dsimp only at hd hq hcA hcB hsz hny;have hshape:∃t,S.shallow s.data.toList=62::t:=by
    unfold S.zat Lib.hasPrefix at hq;cases hsh:S.shallow s.data.toList with
    | nil=>rw[hsh] at hq;simp at hq
    | cons c t=>rw[hsh] at hq;simp at hq;subst hq;exact⟨t,rfl⟩
   obtain⟨t,hsh⟩:=hshape;obtain⟨r,hrd,hrs,_,hle,_,_,hRr⟩:=zsm s hsz 62 t hsh;obtain⟨u,hu⟩:=Qyy (S.B (S.zcv s.data.toList));obtain⟨s1,hs1⟩:=Qyy (r.extract 1 r.size);have jk:s1.data.toList=t:=by rw[<-hs1,S.zbf,hrd];rfl
   have hud:S.zcv s.data.toList=Lib.trimPrefix t [32]:=by unfold S.zcv;rw[hsh];rfl
   have qm:u.size<=s.size:=by
    rw[<-hu,S.zav,hud];have:(Lib.trimPrefix t [32]).length<=t.length:=(by unfold Lib.trimPrefix;split<;>simp);omega
   have hQ:=zg2 s wr hsz;rw[hq] at hQ;have mh:Hid (Calls prog 92 #[.string s] wr λe w'=>e=.returned (.bool true)/\wr=w'):=hid (hQ.mono (λe w' ⟨h1,h2⟩=>⟨h1,h2.symm⟩));have lq:=hid (hRr wr);have hbr:=hr.out.below;have hcr:wr.cell? ⟨b,o+k*2,none⟩=some (.string s):=(hbr.cell (p:=⟨b,o+k*2,none⟩) hbW0).trans hcA;have hcy:wr.cell? ⟨b,o+k*2+1,none⟩=some (.int .i64 y):=(hbr.cell (p:=⟨b,o+k*2+1,none⟩) hbW0).trans hcB;have hJ0:(0:Int)<=(k:Int):=by omega
   have pz:(k:Int)<(ls.length:Int):=by omega
   have hJ2:(1:Int)<=(r.size:Int):=by omega
   have hown2:=hid (λob=>hr.out.own.alloc ob);have hnew:Hid (∀j v,([Value.string u,.int .i64 y]:List Value)[j]?=some v->(wr.alloc (.cells #[.string u,.int .i64 y] 116)).cell? ((⟨wr.heap.size,0,none⟩:Addr).add j)=some v):=hid (λj v hj=>World.news_of_block (za1 _ _) j v (by exact hj));have hone:Hid (∀v∈([Value.string u,.int .i64 y]:List Value),v.oneCell'=true):=hid (by
    intro v hv;simp at hv;rcases hv with rfl|rfl<;>rfl)
   have hstep:Hid (∀ob g dx w1,w1.ownsRow W0.heap.size 116 2 (.slice (some ⟨g,0,none⟩) (os.length+1) dx) (os.length+1) (zc1 os++[.string u,.int .i64 y])->(wr.alloc ob).grownBy w1 (Value.slice a os.length cp).ownBlock->QRel w W0 ls z (k+1) (os++[(u,y)]) (some ⟨g,0,none⟩) dx w1):=hid (λob g dx w1 ho hgw=>by
    have jy:=hr.out.own.lt;refine⟨by rw[Qa,hr.out.len];rfl,?_,?_,?_,hr.out.num.z4t u y (by rw[hr.out.len];exact hny),?_,?_⟩
    ·intro j hj;by_cases e:j=k
     ·subst e;rw[hd,Option.map_some,hq]
     ·exact hr.out.all j (by omega)
    ·rw[List.take_add_one,hd];simp only[Option.toList_some,Qv,Qs,List.map_nil,<-hr.out.spec];rw[<-hu];simp[datL,dat,zcl,S.zaz]
    ·have e:ls.take (k+1)=ls.take k++[(s,y)]:=(by rw[List.take_add_one,hp];rfl);rw[e,zl7,zl7];have:=hr.out.small;dsimp only;omega
    ·rw[Qa,zey];exact ho
    ·exact Below.grown (hr.out.below.alloc mq ob) hgw (by simp;omega) (λq hq=>(jy q hq).1))
   have qp:=hid hs1;have bg:=hid jk;have jh:=hid hud;have ny:=hid hu;clear hp hd hgo hq hcA hcB hsh hrd hRr jk hud hu hQ hbr hny hrs;go_wp2_with (fail);refine mh.out.mono ?_;rintro e w'⟨rfl,rfl⟩;go_wp2_with (fail);refine lq.out.mono ?_;rintro e w'⟨rfl,rfl⟩;go_upto_region 7 with fail
   obtain⟨cd,hcd⟩:∃cd:Bool,Lib.hasPrefix t [32]=cd:=⟨_,rfl⟩;have dw:=hid hcd;clear hcd hs1;go_cut [35] (λs35 wx=>s35=.bool cd/\wr=wx)
   case first=>
    cases t with
    | nil=>
     have he:Hid (cd=false):=hid (by rw[<-dw.out];rfl);have e1:s1.toList=[]:=by
      have:=bg.out;rw[ByteArray.toList_eq];exact this
     go_wp2;go_meet;exact⟨by rw[he.out],rfl⟩
    | cons x t'=>
     have h0:0<s1.size:=(by rw[<-S.lda,bg.out];simp);have hx:s1[0]=x:=by
      have h1:=S.zad s1 0 h0;rw[bg.out] at h1;simpa using h1.symm
     have e1:¬s1.toList=[]:=by
      have:=bg.out;rw[ByteArray.toList_eq,this];simp
     have e3:Hid (s1.toList.isEmpty=false):=hid (by
      cases h:s1.toList with
      | nil=>exact absurd h e1
      | cons _ _=>rfl)
     have h0':(0:Int)<(s1.size:Int):=(by omega);by_cases hx2:x=32
     ·have he:Hid (cd=true):=hid (by rw[<-dw.out,hx2];rfl);have e2:((s1[0].toNat:Int) == 32)=true:=(by rw[hx,hx2];rfl);clear hx;go_wp2;go_meet;exact⟨by rw[he.out,e3.out];rfl,rfl⟩
     ·have he:Hid (cd=false):=hid (by rw[<-dw.out];show ((32 == x)&&_)=false;rw[Qe.2 (Ne.symm hx2)];rfl);have e2:((s1[0].toNat:Int) == 32)=false:=by
       rw[Qe,hx];intro e;exact hx2 (Qk.1 (by show x.toNat=32;omega))
      clear hx;go_wp2;go_meet;exact⟨by rw[he.out],rfl⟩
   case rest=>
   obtain⟨rfl,rfl⟩:=hcut;go_upto_if 35 with fail
   go_cut [7] (λs7 wx=>s7=.string u/\wr=wx)
   case first=>
    cases cd
    ·have he:Hid (s1=u):=hid (by
      rw[<-ny.out,jh.out,Lib.trimPrefix,if_neg (by rw[dw.out];simp),<-bg.out,S.zbp])
     go_wp2;go_meet;exact⟨by rw[he.out],rfl⟩
    ·have h1:(1:Int)<=(s1.size:Int):=by
      have:=dw.out;cases t with
      | nil=>cases this
      | cons x t'=>have h:=S.lda s1;rw[bg.out] at h;simp at h;omega
     have he:s1.extract 1 s1.size=u:=by
      apply ByteArray.ext
      apply Array.toList_inj.1
      rw[S.zbf,bg.out,<-ny.out,jh.out,Lib.trimPrefix,if_pos dw.out,S.zaz];rfl
     go_wp2;go_meet;exact⟨by first|rfl|rw[he],rfl⟩
   case rest=>
   obtain⟨rfl,rfl⟩:=hcut;go_wp2_with (at_builtin;refine wpList_append_lies _ (by rfl) _ _ 83 (by rfl) W0.heap.size 116 i0 (.agg #[.string ⟨#[]⟩,.int .i64 0]) 2 24 underlying83 hi hi0 hi1 hi2 (by rfl) (by omega) (.slice a os.length cp) os.length (zc1 os) (by rfl) (hown2.out _) ⟨wr.heap.size,0,none⟩ 1 1 [.string u,.int .i64 y] (by rfl) (by rfl) hnew.out hone.out (by omega) (by unfold maxLen;omega) (by omega) (by simp;omega) (wr.heap.size+1) (by simp) ?_)
   intro g dx w1 hown1 hgrow hat jw;have hR:=hid (hstep.out _ g dx w1 hown1 hgrow);clear hown1 hgrow hat jw;go_wp2;go_roundw
   case rel=>exact⟨k+1,os.length+1,some ⟨g,0,none⟩,dx,by omega,by go_num,rfl,hid ⟨os++[(u,y)],by simp,hR.out⟩⟩
   case measure=>simp[intOf];omega
  ·have hqk:=zs3 (datL ls) k hr.out.all hgo;have hspec:Hid (S.zae (datL ls)=datL os):=hid (by rw[hqk,hr.out.spec]);have gy:Hid ((S.zae (datL ls)).length=k):=hid (by rw[hspec.out,zas,hr.out.len]);have hpos:0<os.length:=by
    rw[hr.out.len];rcases Nat.eq_zero_or_pos k with h|h
    ·rw[h] at hgo;exact absurd jq.out hgo
    ·exact h
   obtain⟨g,rfl,hg0,hg1,hcp,jg⟩:=zrx hr.out.own (by have:=hr.out.small;have:=(dh.out.take k).2;omega) hpos;have hB:=hid (qj.out g 0 cp os z wr hcp hg1 jg hr.out.num (by rw[<-hspec.out];exact qg.out));have fq:w.heap.size<wr.heap.size:=Qh jd mq;have ng:=hid ((hr.out.below.block w.heap.size jd).trans jm.out);have pq:=hid (kr.out.trans (hr.out.below.mono (Nat.le_of_lt jd)));by_cases hlt:k<ls.length
   ·obtain⟨p,hp⟩:∃p,ls[k]?=some p:=⟨ls[k],Qg hlt⟩;have hd:=zcd ls k p hp;rw[hd,Option.map_some] at hgo;have hq:S.zat p.1.data.toList=false:=by
     cases h:S.zat p.1.data.toList
     ·rfl
     ·rw[h] at hgo;exact absurd rfl hgo
    have hcA:=(dh.out.1 k p hp).1;have hsz:=dh.out.size k p hp;obtain⟨s,y⟩:=p;dsimp only at hd hq hcA hsz;have hQ:=zg2 s wr hsz;rw[hq] at hQ;have mh:Hid (Calls prog 92 #[.string s] wr λe w'=>e=.returned (.bool false)/\wr=w'):=hid (hQ.mono (λe w' ⟨h1,h2⟩=>⟨h1,h2.symm⟩));have hcr:wr.cell? ⟨b,o+k*2,none⟩=some (.string s):=(hr.out.below.cell (p:=⟨b,o+k*2,none⟩) hbW0).trans hcA;have hJ0:(0:Int)<=(k:Int):=(by omega);have pz:(k:Int)<(ls.length:Int):=(by omega);clear hqk hgo hd hq hcA hQ hp jg hg0 hg1 hcp;go_wp2_with (fail);refine mh.out.mono ?_;rintro e w'⟨rfl,rfl⟩;go_wp2_with (fail);refine hB.out.mono ?_;rintro e w2⟨kv,ns,rfl,hrep,hM,hb2⟩;obtain⟨ka,kn,kc,rfl⟩:=hrep.form;have hx2:=(hb2.block w.heap.size fq).trans ng.out;have hw2:w.heap.size<w2.heap.size:=Qh fq hb2.size;have d0:w2.cell? ⟨w.heap.size,0,none⟩=some (.int .i64 0):=za0 hx2 0 _ rfl;have d1:w2.cell? ⟨w.heap.size,1,none⟩=some (.int .i64 0):=za0 hx2 1 _ rfl;have d2:w2.cell? ⟨w.heap.size,2,none⟩=some (.int .i64 0):=za0 hx2 2 _ rfl;have d3:w2.cell? ⟨w.heap.size,3,none⟩=some (.string ⟨#[]⟩):=za0 hx2 3 _ rfl;have d4:w2.cell? ⟨w.heap.size,4,none⟩=some (.string ⟨#[]⟩):=za0 hx2 4 _ rfl;have d5:w2.cell? ⟨w.heap.size,5,none⟩=some (.int .i64 0):=za0 hx2 5 _ rfl;have d6:w2.cell? ⟨w.heap.size,6,none⟩=some (.slice none 0 0):=za0 hx2 6 _ rfl;have g0:=za7 hx2;have hz:=hid (set7 hx2 (.int .i64 0) (.int .i64 5) (.int .i64 0) (.string ⟨#[]⟩) (.string ⟨#[]⟩) (.int .i64 0) (.slice ka kn kc));have hbw2:Below w.heap.size w w2:=pq.out.trans (hb2.mono (Nat.le_of_lt fq));have hbz:=hid (zbb (N:=w.heap.size) hbw2 (Qc _) (.int .i64 0) (.int .i64 5) (.int .i64 0) (.string ⟨#[]⟩) (.string ⟨#[]⟩) (.int .i64 0) (.slice ka kn kc));have hrz:=hid (zcw hrep (N:=w.heap.size) (λx hx e=>by have:=hx.1;omega) (.int .i64 0) (.int .i64 5) (.int .i64 0) (.string ⟨#[]⟩) (.string ⟨#[]⟩) (.int .i64 0) (.slice ka kn kc));have kg:w.heap.size<=wr.heap.size:=Nat.le_of_lt fq;clear hx2 hb2 hrep hbw2;go_wp2;refine bodyPost_ret (v:=.tuple #[.agg #[.int .i64 0,.int .i64 5,.int .i64 0,.string ⟨#[]⟩,.string ⟨#[]⟩,.int .i64 0,.slice ka kn kc],.int .i64 (k:Int)]) (by have z0:=za0 hz.out 0 _ rfl;have z1:=za0 hz.out 1 _ rfl;have z2:=za0 hz.out 2 _ rfl;have z3:=za0 hz.out 3 _ rfl;have z4:=za0 hz.out 4 _ rfl;have z5:=za0 hz.out 5 _ rfl;have z6:=za0 hz.out 6 _ rfl;simp[results,results97,go_sem,z0,z1,z2,z3,z4,z5,z6]) rfl ?_;exact⟨.slice ka kn kc,ns,by rw[gy.out];rfl,hrz.out.move (λx hx=>⟨by have:=hx.1;omega,by rw[zho];exact hx.2⟩) (λ_ _=>rfl),hid (by rw[hspec.out];exact hM.out),hbz.out⟩
   ·have pz:¬(k:Int)<(ls.length:Int):=(by omega);clear hqk hgo jg hg0 hg1 hcp;go_wp2_with (fail);refine hB.out.mono ?_;rintro e w2⟨kv,ns,rfl,hrep,hM,hb2⟩;obtain⟨ka,kn,kc,rfl⟩:=hrep.form;have hx2:=(hb2.block w.heap.size fq).trans ng.out;have hw2:w.heap.size<w2.heap.size:=Qh fq hb2.size;have d0:w2.cell? ⟨w.heap.size,0,none⟩=some (.int .i64 0):=za0 hx2 0 _ rfl;have d1:w2.cell? ⟨w.heap.size,1,none⟩=some (.int .i64 0):=za0 hx2 1 _ rfl;have d2:w2.cell? ⟨w.heap.size,2,none⟩=some (.int .i64 0):=za0 hx2 2 _ rfl;have d3:w2.cell? ⟨w.heap.size,3,none⟩=some (.string ⟨#[]⟩):=za0 hx2 3 _ rfl;have d4:w2.cell? ⟨w.heap.size,4,none⟩=some (.string ⟨#[]⟩):=za0 hx2 4 _ rfl;have d5:w2.cell? ⟨w.heap.size,5,none⟩=some (.int .i64 0):=za0 hx2 5 _ rfl;have d6:w2.cell? ⟨w.heap.size,6,none⟩=some (.slice none 0 0):=za0 hx2 6 _ rfl;have g0:=za7 hx2;have hz:=hid (set7 hx2 (.int .i64 0) (.int .i64 5) (.int .i64 0) (.string ⟨#[]⟩) (.string ⟨#[]⟩) (.int .i64 0) (.slice ka kn kc));have hbw2:Below w.heap.size w w2:=pq.out.trans (hb2.mono (Nat.le_of_lt fq));have hbz:=hid (zbb (N:=w.heap.size) hbw2 (Qc _) (.int .i64 0) (.int .i64 5) (.int .i64 0) (.string ⟨#[]⟩) (.string ⟨#[]⟩) (.int .i64 0) (.slice ka kn kc));have hrz:=hid (zcw hrep (N:=w.heap.size) (λx hx e=>by have:=hx.1;omega) (.int .i64 0) (.int .i64 5) (.int .i64 0) (.string ⟨#[]⟩) (.string ⟨#[]⟩) (.int .i64 0) (.slice ka kn kc));have kg:w.heap.size<=wr.heap.size:=Nat.le_of_lt fq;clear hx2 hb2 hrep hbw2;go_wp2;refine bodyPost_ret (v:=.tuple #[.agg #[.int .i64 0,.int .i64 5,.int .i64 0,.string ⟨#[]⟩,.string ⟨#[]⟩,.int .i64 0,.slice ka kn kc],.int .i64 (k:Int)]) (by have z0:=za0 hz.out 0 _ rfl;have z1:=za0 hz.out 1 _ rfl;have z2:=za0 hz.out 2 _ rfl;have z3:=za0 hz.out 3 _ rfl;have z4:=za0 hz.out 4 _ rfl;have z5:=za0 hz.out 5 _ rfl;have z6:=za0 hz.out 6 _ rfl;simp[results,results97,go_sem,z0,z1,z2,z3,z4,z5,z6]) rfl ?_;exact⟨.slice ka kn kc,ns,by rw[gy.out];rfl,hrz.out.move (λx hx=>⟨by have:=hx.1;omega,by rw[zho];exact hx.2⟩) (λ_ _=>rfl),hid (by rw[hspec.out];exact hM.out),hbz.out⟩
theorem S.zwb (l:List UInt8)(n:Nat)(h:S.blank l=true):S.blank (l.drop n)=true:=by
 induction l generalizing n with
 | nil=>simpa using h
 | cons x r ih=>
  cases n with
  | zero=>exact h
  | succ n=>
   rw[List.drop_succ_cons];apply ih
   unfold S.blank S.indent at h ⊢;rw[decide_eq_true_iff] at h ⊢;simp only[S.cnt,Qd] at h;split at h<;>omega
theorem S.zz8 (l:List UInt8)(h:(S.item l).ok=true)(he:(S.item l).empty=true):S.blank (l.drop (S.item l).zaa)=true:=by
 by_cases hn:S.za5 (S.shallow l)=0\/S.zb7 (S.shallow l) (S.za5 (S.shallow l))=false
 ·rw[S.zlu _ hn] at h;simp at h
 ·rw[S.zjo _ hn] at he ⊢;simp only at he ⊢;have hne:S.shallow l≠[]:=by intro e;apply hn;left;rw[e];rfl
  have h4:¬4<=S.indent l:=λh4=>hne (S.zgx l h4);rw[S.zgn l h4] at he ⊢;rw[Qbb] at he;rw[<-Qbb];exact S.zwb _ _ he
theorem S.zpp (d:Nat)(x:List UInt8)(h:S.blank x=true):S.za2 d [x]=S.za2 d [[]]:=by
 cases d with
 | zero=>rfl
 | succ d=>
  have h1:S.za6 [x]=1:=by simp[S.za6,h]
  have h2:S.za6 [([]:List UInt8)]=1:=by rfl
  simp only[S.za2,h1,h2];rfl
theorem S.zxl (m:Nat)(x:List UInt8)(r:List (List UInt8)):max 1 (lastOf (x::r.takeWhile (zbm m)))=S.zax m (x::r):=by
 unfold S.zax;rw[List.tail_cons,zim,zf4];by_cases h0:lastOf (r.takeWhile (zbm m))=0
 ·rw[if_pos h0,if_pos h0];split<;>omega
 ·rw[if_neg h0,if_neg h0];omega
def oneN (m:S.Mark)(row:List (List UInt8)):Nat:=if m.empty=true/\(row[1]?.map S.blank)=some true then 1 else S.zax m.zaa row
theorem zl3 (m:S.Mark)(x:List UInt8)(r:List (List UInt8)):(S.zah m (x::r)).length=oneN m (x::r)/\1<=oneN m (x::r)/\oneN m (x::r)<=r.length+1:=by
 have h:=S.zo4 m (x::r) (by simp);have h1:(S.zah m (x::r)).length=oneN m (x::r):=by
  unfold S.zah oneN;split
  ·rfl
  ·have:=S.zdx m.zaa (x::r) (by simp);rw[List.length_map,Ql];omega
 rw[h1] at h;exact⟨h1,h.1,by simpa using h.2⟩
theorem z1c (d:Nat)(x:List UInt8)(r:List (List UInt8))(h:(S.item x).ok=true):S.za2 d (((x::r).take (oneN (S.item x) (x::r))).map (λl=>l.drop (S.item x).zaa))=S.za2 d (S.zah (S.item x) (x::r)):=by
 unfold S.zah oneN;split
 ·rename_i hc;rw[Qz,List.take_zero,Qs,List.map_nil];exact S.zpp d _ (S.zz8 x h hc.1)
 ·rfl
theorem zyg (x:List UInt8)(r:List (List UInt8))(n:Nat)(hn:1<=n)(h:(S.item x).ok=true):bytes (((x::r).take n).map (λl=>l.drop (S.item x).zaa))<bytes (x::r):=by
 obtain⟨h1,h2⟩:=S.ztd x h;obtain⟨n,rfl⟩:∃k,n=k+1:=⟨n-1,by omega⟩;have h3:=S.zhz (S.item x).zaa r n;rw[Qz,Qs];simp only[bytes,Qs,List.sum_cons,Qf] at *;omega
structure ORel (w W0:World)(mg:Nat)(ls:List Ln)(z:Int)(k:Nat)(os:List Ln)(a:Option Addr)(cp:Nat)(wr:World):Prop where
 len:os.length=k
 spec:datL os=((datL ls).take k).map (λl=>l.drop mg)
 small:tot (zcl os)<=tot (zcl (ls.take k))
 num:Num z os
 own:wr.ownsRow W0.heap.size 116 2 (.slice a os.length cp) os.length (zc1 os)
 below:Below W0.heap.size W0 wr
theorem zzw (C:List UInt8->List Rn->Prop)(d:Nat)(hR:ROK C d)(b o cap:Nat)(p0:Ln)(ts:List Ln)(z:Int)(w:World)(kk nn:Int)(hrow:RowL w b o (p0::ts))(hnum:Num z (p0::ts))(hbw:b<w.heap.size)(hcap:ts.length+1<=cap)(m:S.Mark)(hm:S.item p0.1.data.toList=m)(hok:m.ok=true)(hd:bytes (datL (p0::ts))<=d):Calls prog 142 #[.slice (some ⟨b,o,none⟩) (ts.length+1) cap,.agg #[.int .u8 kk,.int .i64 nn,.bool m.empty,.int .i64 (m.zaa:Nat)]] w λe w'=>∃kv ns,e=.returned (.tuple #[zon (.nd 7 0 [] [] z ns) kv,.int .i64 ((S.zah m (datL (p0::ts))).length:Nat),.bool (S.za2 d (S.zah m (datL (p0::ts)))).2])/\RepN w' (λx=>w.heap.size<=x/\x<w'.heap.size) kv ns/\Hid (MatL C z (S.za2 d (S.zah m (datL (p0::ts)))).1 ns)/\Below w.heap.size w w':=by
 obtain⟨i0,hi,hi0,hi1,hi2⟩:=info_parts Tryz.zo6;obtain⟨W1,hW1⟩:=Qzz (w.alloc (.cells #[.int .u8 kk,.int .i64 nn,.bool m.empty,.int .i64 (m.zaa:Nat)] 150));have hb1:Below w.heap.size w W1:=by rw[hW1];exact(Below.refl _ _).alloc (Qc _) _
 have hs1:W1.heap.size=w.heap.size+1:=by rw[hW1];simp
 have hx1:W1.heap[w.heap.size]?=some (.cells #[.int .u8 kk,.int .i64 nn,.bool m.empty,.int .i64 (m.zaa:Nat)] 150 (0,0)):=by rw[hW1];exact za1 _ _
 obtain⟨W0,hW0,hb0,hz0,hx0⟩:=zlx W1;have hxm:W0.heap[w.heap.size]?=_:=(hb0.block w.heap.size (by omega)).trans hx1;have vg:Below w.heap.size w W0:=hb1.trans (hb0.mono (by omega));have hlen:=hrow.len;simp only[Qd] at hlen;have htot:=hrow.2;have jk:=hrow.below vg hbw;have lq:=S.zmd p0.1.data.toList;have hsz0:=hrow.size 0 p0 rfl;rw[hm,S.lda] at lq;have lg:m.zaa<=1000000:=by simp[tot,zcl] at htot;omega
 obtain⟨N,hN⟩:=Qyy (oneN m (datL (p0::ts)));have hdc:datL (p0::ts)=p0.1.data.toList::datL ts:=rfl;have zk:Hid ((S.zah m (datL (p0::ts))).length=N):=hid (by rw[<-hN,hdc];exact(zl3 m _ _).1);have hN1:1<=N:=by rw[<-hN,hdc];exact(zl3 m _ _).2.1
 have zx:N<=ts.length+1:=by rw[<-hN,hdc];have:=(zl3 m p0.1.data.toList (datL ts)).2.2;rw[zas] at this;exact this
 have zh:Hid (S.za2 d (((datL (p0::ts)).take N).map (λl=>l.drop m.zaa))=S.za2 d (S.zah m (datL (p0::ts)))):=hid (by
  rw[<-hN,hdc,<-hm];exact z1c d _ _ (by rw[hm];exact hok))
 have hNb:Hid (bytes (((datL (p0::ts)).take N).map (λl=>l.drop m.zaa))<d):=hid (Qh (by
  rw[hdc,<-hm];exact zyg _ _ N hN1 (by rw[hm];exact hok)) hd)
 obtain⟨go,hgo⟩:∃go:Bool,(!m.empty||(decide (0<ts.length)&&!((datL ts)[0]?.map S.blank == some true)))=go:=⟨_,rfl⟩;have qg:Hid (∀k,k<=ts.length->(go=true->(datL ts).takeWhile (zbm m.zaa)=(datL ts).take k)->(go=false->k=0)->max 1 (lastOf ((datL (p0::ts)).take (k+1)))=N):=hid (λk hk h1 h2=>by
  rw[<-hN,hdc,Qz];unfold oneN;cases hg:go with
  | true=>
   rw[<-h1 hg,S.zxl,if_neg];rintro⟨he,hb⟩;rw[List.getElem?_cons_succ] at hb;rw[hg,he,hb] at hgo;simp at hgo
  | false=>
   rw[h2 hg,List.take_zero];have h3:max 1 (lastOf [p0.1.data.toList])=1:=by
    rw[zf4];simp only[lastOf,List.reverse_nil,List.dropWhile_nil,Qi,if_true];split<;>rfl
   rw[h3];rw[hg] at hgo;split
   ·rfl
   ·rename_i hc;cases hts:datL ts with
    | nil=>rfl
    | cons y r=>
     exfalso
     have hl:0<ts.length:=(by have:=congrArg List.length hts;rw[zas] at this;simp at this;omega);rw[decide_eq_true hl,hts] at hgo;rw[hts] at hc;simp at hgo hc;exact absurd hgo.2 (by simpa using hc hgo.1))
 rw[hs1] at hx0;have bg:=hid jk;have kg:=hid hnum;have yx:=hid hR;have jw:=hid hx0;have qj:=hid hxm;have mh:=hid vg;have ng:=hid hW0;have mq:=hid hW1;have hbW0:b<W0.heap.size:=by omega
 have dx:w.heap.size<W0.heap.size:=by omega
 have gy:w.heap.size+1<W0.heap.size:=by omega
 have yc:=hid hs1;have jl:=hid hgo;have c2:W0.cell? ⟨w.heap.size,2,none⟩=some (.bool m.empty):=za0 hxm 2 _ rfl;have c3:W0.cell? ⟨w.heap.size,3,none⟩=some (.int .i64 (m.zaa:Nat)):=za0 hxm 3 _ rfl;have hz:p0.2=z:=by have:=hnum 0 p0 rfl;simpa using this
 clear hrow hnum hm hd hR hW1 hb1 hs1 hx1 hW0 hb0 hz0 hx0 hxm vg jk lq hN hgo;obtain⟨s0,z0⟩:=p0;dsimp only at hz hsz0;go_enter func142,ntmps142;go_upto_region 1 with fail
 rw[<-mq.out,<-ng.out];go_upto_region 2 with fail
 go_cut [27] (λs27 wx=>s27=.bool go/\W0=wx)
 case first=>
  rcases Bool.eq_false_or_eq_true m.empty with dw|dw
  ·have hme:=hid dw;rw[dw] at c2;clear dw;by_cases hl:0<ts.length
   ·obtain⟨p,hp⟩:∃p,ts[0]?=some p:=⟨ts[0],Qg hl⟩;have hp1:(((s0,z0):Ln)::ts)[1]?=some p:=(by simpa using hp);have hc:=(bg.out.1 1 p hp1).1;have hsz:=bg.out.size 1 p hp1;obtain⟨bl,hbl⟩:=Qyy (S.blank p.1.data.toList);have hBl:=zc7 p.1 W0 hsz;rw[hbl] at hBl;have wh:Hid (Calls prog 67 #[.string p.1] W0 λe w'=>e=.returned (.bool bl)/\W0=w'):=hid (hBl.mono (λe w' ⟨h1,h2⟩=>⟨h1,h2.symm⟩));have he:Hid (go = !bl):=hid (by
     rw[<-jl.out,hme.out,zcd ts 0 p hp,Option.map_some,hbl,decide_eq_true hl];cases bl<;>rfl)
    obtain⟨s,y⟩:=p;dsimp only at hc hsz wh;have hc':W0.cell? ⟨b,o+2,none⟩=some (.string s):=(by simpa using hc);have hJ:(1:Int)<(ts.length:Int)+1:=(by omega);clear hBl hbl hp1 hp hc hl;go_wp2_with (fail);refine wh.out.mono ?_;rintro e w'⟨rfl,rfl⟩;go_wp2;go_meet;exact⟨by rw[he.out],rfl⟩
   ·have he:Hid (go=false):=hid (by rw[<-jl.out,hme.out,decide_eq_false hl];rfl);have hJ:¬(1:Int)<(ts.length:Int)+1:=(by omega);clear hl;go_wp2;go_meet;exact⟨by rw[he.out],rfl⟩
  ·have he:Hid (go=true):=hid (by rw[<-jl.out,dw];rfl);rw[dw] at c2;clear dw;go_wp2;go_meet;exact⟨by rw[he.out],rfl⟩
 case rest=>
 obtain⟨rfl,rfl⟩:=hcut;go_upto_if 27 with fail
 go_cut [7] (λs7 wx=>∃k:Nat,k<=ts.length/\s7=.int .i64 ((k:Int)+1)/\Hid (max 1 (lastOf ((datL (((s0,z0):Ln)::ts)).take (k+1)))=N/\Below W0.heap.size W0 wx))
 case first=>
  cases go with
  | false=>
   go_wp2;go_meet;exact⟨0,Qt _,rfl,hid ⟨qg.out 0 (Qt _) (λh=>by cases h) (λ_=>rfl),Below.refl _ _⟩⟩
  | true=>
  have zq:=hid c3;clear c2 c3;go_wp2;go_loopw [7] (λnv wr=>∃k:Nat,k<=ts.length/\nv=.int .i64 ((k:Int)+1)/\Hid ((∀j x,j<k->(datL ts)[j]?=some x->zbm m.zaa x=true)/\Below W0.heap.size W0 wr)) (λnv _=>ts.length+1-(intOf nv).toNat)
  case atStart=>exact⟨0,Qt _,rfl,hid ⟨by intro j x hj;omega,Below.refl _ _⟩⟩
  case round=>
   obtain⟨k,hk,rfl,hrel'⟩:=hrel;obtain⟨hall,hbr⟩:=hrel'.out;clear hrel';have jd:=hid hall;have qb:=hid hbr;haveI hNE:Nonempty (Bk wr):=⟨⟨wr,Below.refl _ _⟩⟩;have jm:b<wr.heap.size:=Qh hbW0 hbr.size;have jy:w.heap.size<wr.heap.size:=Qh dx hbr.size;have C3:∀kk:Bk wr,kk.w.cell? ⟨w.heap.size,3,none⟩=some (.int .i64 (m.zaa:Nat)):=λkk=>(kk.h.cell (p:=⟨w.heap.size,3,none⟩) jy).trans ((qb.out.cell (p:=⟨w.heap.size,3,none⟩) dx).trans zq.out);have hq:Hid (∀kq:Bk wr,Below W0.heap.size W0 kq.w):=hid (λkq=>qb.out.trans (kq.h.mono qb.out.size));clear hall hbr;by_cases hlt:k<ts.length
   ·obtain⟨p,hp⟩:∃p,ts[k]?=some p:=⟨ts[k],Qg hlt⟩;have hp1:(((s0,z0):Ln)::ts)[k+1]?=some p:=(by simpa using hp);have hc:=(bg.out.1 (k+1) p hp1).1;have hsz:=bg.out.size (k+1) p hp1;have hd:=hid (zcd ts k p hp);obtain⟨s,y⟩:=p;dsimp only at hc hsz;obtain⟨bl,hbl⟩:=Qyy (S.blank s.data.toList);obtain⟨n,hn⟩:=Qyy (S.indent s.data.toList);have C1:∀kk:Bk wr,kk.w.cell? ⟨b,o+(k+1)*2,none⟩=some (.string s):=λkk=>(kk.h.cell (p:=⟨b,o+(k+1)*2,none⟩) jm).trans ((qb.out.cell (p:=⟨b,o+(k+1)*2,none⟩) hbW0).trans hc);have hB':Hid (∀kk:Bk wr,Calls prog 67 #[.string s] kk.w λe w'=>e=.returned (.bool bl)/\Below wr.heap.size wr w'):=hid (λkk=>by
     have:=zc7 s kk.w hsz;rw[hbl] at this;exact this.mono (λe w' ⟨h1,h2⟩=>⟨h1,by rw[h2];exact kk.h⟩))
    have hI':Hid (∀kk:Bk wr,Calls prog 88 #[.string s] kk.w λe w'=>e=.returned (.int .i64 (n:Nat))/\Below wr.heap.size wr w'):=hid (λkk=>by
     have:=zcc s kk.w hsz;rw[hn] at this;exact this.mono (λe w' ⟨h1,h2⟩=>⟨h1,by rw[h2];exact kk.h⟩))
    have hdp:Hid (zbm m.zaa s.data.toList=(bl||decide (m.zaa<=n))):=hid (by unfold zbm;rw[hbl,hn]);have hJ0:(0:Int)<=(k:Int)+1:=(by omega);have vw:(k:Int)+1<(ts.length:Int)+1:=(by omega);have qp:((k:Int)+1).toNat=k+1:=(by omega);have hon:Hid (zbm m.zaa s.data.toList=true->∀j x,j<k+1->(datL ts)[j]?=some x->zbm m.zaa x=true):=hid (λh j x hj hx=>by
     by_cases e:j=k
     ·subst e;rw[hd.out] at hx;rw[<-Qy hx];exact h
     ·exact jd.out j x (by omega) hx)
    have hoff:Hid (zbm m.zaa s.data.toList=false->max 1 (lastOf ((datL (((s0,z0):Ln)::ts)).take (k+1)))=N):=hid (λh=>qg.out k hk (λ_=>zgo _ _ k jd.out (by rw[zas];exact hk) (λx hx=>by rw[hd.out] at hx;rw[<-Qy hx];exact h)) (λh=>by cases h));clear hp hp1 hc hbl hn;cases bl
    ·by_cases hmn:m.zaa<=n
     ·have hge:(m.zaa:Int)<=(n:Int):=(by omega);have hyes:Hid (zbm m.zaa s.data.toList=true):=hid (by rw[hdp.out,decide_eq_true hmn];rfl);clear hmn;go_wp2_with (fail);refine zar (by kernel_rfl) (by kernel_rfl) ?_;repeat (go_big_quiet_step ((rename_i kk;first|exact(hB'.out kk).mono (λe w' h=>⟨h.1,⟨w',h.2⟩,rfl⟩)|exact(hI'.out kk).mono (λe w' h=>⟨h.1,⟨w',h.2⟩,rfl⟩))))
      refine wpQuiet_nil ?_;intro _ hw';obtain⟨kq,hw''⟩:=hw';subst hw'';go_wp2;go_roundw
      case rel=>exact⟨k+1,by omega,by go_num,hid ⟨hon.out hyes.out,hq.out kq⟩⟩
      case measure=>simp[intOf];omega
     ·have hge:¬(m.zaa:Int)<=(n:Int):=(by omega);have hno:Hid (zbm m.zaa s.data.toList=false):=hid (by rw[hdp.out,decide_eq_false hmn];rfl);clear hmn;go_wp2_with (fail);refine zar (by kernel_rfl) (by kernel_rfl) ?_;repeat (go_big_quiet_step ((rename_i kk;first|exact(hB'.out kk).mono (λe w' h=>⟨h.1,⟨w',h.2⟩,rfl⟩)|exact(hI'.out kk).mono (λe w' h=>⟨h.1,⟨w',h.2⟩,rfl⟩))))
      refine wpQuiet_nil ?_;intro _ hw';obtain⟨kq,hw''⟩:=hw';subst hw'';go_wp2;go_meet;exact⟨k,hk,rfl,hid ⟨hoff.out hno.out,hq.out kq⟩⟩
    ·have hyes:Hid (zbm m.zaa s.data.toList=true):=hid (by rw[hdp.out];rfl);go_wp2_with (fail);refine zar (by kernel_rfl) (by kernel_rfl) ?_;repeat (go_big_quiet_step ((rename_i kk;first|exact(hB'.out kk).mono (λe w' h=>⟨h.1,⟨w',h.2⟩,rfl⟩)|exact(hI'.out kk).mono (λe w' h=>⟨h.1,⟨w',h.2⟩,rfl⟩))))
     refine wpQuiet_nil ?_;intro _ hw';obtain⟨kq,hw''⟩:=hw';subst hw'';go_wp2;go_roundw
     case rel=>exact⟨k+1,by omega,by go_num,hid ⟨hon.out hyes.out,hq.out kq⟩⟩
     case measure=>simp[intOf];omega
   ·have hke:k=ts.length:=(by omega);subst hke;have vw:¬(ts.length:Int)+1<(ts.length:Int)+1:=(by omega);have hoff:=hid (qg.out ts.length hk (λ_=>zgo _ _ _ jd.out (by rw[zas];exact hk) (λx hx=>by rw[Qr (by rw[zas];exact Qc _)] at hx;cases hx)) (λh=>by cases h));go_wp2_with (fail);refine zar (by kernel_rfl) (by kernel_rfl) ?_;repeat (go_big_quiet_step (fail))
    refine wpQuiet_nil ?_;intro _ hw';obtain⟨kq,hw''⟩:=hw';subst hw'';go_wp2;go_meet;exact⟨ts.length,hk,rfl,hid ⟨hoff.out,hq.out kq⟩⟩
 case rest=>
 obtain⟨k,hk,rfl,pz⟩:=hcut;obtain⟨wc0,qm⟩:=Qzz (wc);subst qm;have qh:=zq3 b o cap ((((s0,z0):Ln)::ts).take (k+1)) wc0 ((bg.out.below pz.out.2 hbW0).take (k+1));rw[Ql,Qd,Nat.min_eq_left (by omega),zlr] at qh;obtain⟨L,hL⟩:=Qyy (lastOf ((datL (((s0,z0):Ln)::ts)).take (k+1)));have kr:=pz.out.1;rw[hL] at qh kr;have hmx:max (1:Int) (L:Int)=(N:Int):=by omega
 have zl:Hid (Calls prog 131 #[.slice (some ⟨b,o,none⟩) (k+1) cap] wc0 λe w'=>e=.returned (.int .i64 (L:Nat))/\wc0=w'):=hid (qh.mono (λe w' ⟨h1,h2⟩=>⟨h1,h2.symm⟩));have hbc:=pz.out.2;have fq:b<wc0.heap.size:=Qh hbW0 hbc.size;have jg:w.heap.size<wc0.heap.size:=Qh dx hbc.size;have jh:w.heap.size+1<wc0.heap.size:=Qh gy hbc.size;have dh:=hid (bg.out.below hbc hbW0);have wm:=hid ((hbc.cell (p:=⟨w.heap.size,3,none⟩) dx).trans c3);have hxc:=hid ((hbc.block (w.heap.size+1) gy).trans jw.out);have tq:=hid (mh.out.trans (hbc.mono (Nat.le_of_lt dx)));have hJ0:(0:Int)<=(k:Int)+1:=by omega
 have vw:(k:Int)+1<=(cap:Int):=by omega
 have qp:((k:Int)+1).toNat=k+1:=by omega
 clear pz hL kr qh hbc c2 c3 bg jw qj mh ng mq dx gy hbW0 qg;go_wp2_with fail
 refine zl.out.mono ?_;rintro e w'⟨rfl,rfl⟩;go_wp2;go_loopw [8,9] (λrv iv wr=>∃(j n':Nat) (a:Option Addr) (cp:Nat),j<=N/\iv=.int .i64 j/\rv=.slice a n' cp/\Hid (∃os,n'=os.length/\ORel w wc0 m.zaa (((s0,z0):Ln)::ts) z j os a cp wr)) (λ_ iv _=>N-(intOf iv).toNat)
 case atStart=>exact⟨0,0,none,0,Qt _,rfl,rfl,hid ⟨[],rfl,rfl,by simp[datL,dat,zcl],by simp[tot,zcl],λi p h=>by simp at h,World.ownsRow_nil _ _ _ _,Below.refl _ _⟩⟩
 case round=>
  obtain⟨j,n',a,cp,hj,rfl,rfl,hrel'⟩:=hrel;obtain⟨os,hn',hr0⟩:=hrel'.out;subst hn';have hr:=hid hr0;have jq:wc0.heap.size<=wr.heap.size:=hr0.below.size;have yg:os.length<=1000000:=by have:=hr0.len;omega
  have jm:b<wr.heap.size:=Qh fq jq;have jy:w.heap.size<wr.heap.size:=Qh jg jq;clear hrel' hr0;by_cases hlt:j<N
  ·obtain⟨p,hp⟩:∃p,(((s0,z0):Ln)::ts)[j]?=some p:=⟨(((s0,z0):Ln)::ts)[j]'(by simp;omega),Qg (by simp;omega)⟩;have hcA:=(dh.out.1 j p hp).1;have hcB:=(dh.out.1 j p hp).2;have hsz:=dh.out.size j p hp;have hny:=kg.out j p hp;have hd:=zcd _ j p hp;obtain⟨s,y⟩:=p;dsimp only at hcA hcB hsz hny hd;obtain⟨u,hu⟩:=Qyy (S.B (s.data.toList.drop m.zaa));have zw:u.size<=s.size:=by rw[<-hu,S.zav,Qf,S.lda];omega
   have zn:Hid (∀wx,Calls prog 132 #[.string s,.int .i64 (m.zaa:Nat)] wx λe w'=>e=.returned (.string u)/\wx=w'):=hid (λwx=>by
    have:=zid s m.zaa wx lg;rw[hu] at this;exact this.mono (λe w' ⟨h1,h2⟩=>⟨h1,h2.symm⟩))
   have hcr:wr.cell? ⟨b,o+j*2,none⟩=some (.string s):=(hr.out.below.cell (p:=⟨b,o+j*2,none⟩) fq).trans hcA;have hcy:wr.cell? ⟨b,o+j*2+1,none⟩=some (.int .i64 y):=(hr.out.below.cell (p:=⟨b,o+j*2+1,none⟩) fq).trans hcB;have hcm:wr.cell? ⟨w.heap.size,3,none⟩=some (.int .i64 (m.zaa:Nat)):=(hr.out.below.cell (p:=⟨w.heap.size,3,none⟩) jg).trans wm.out;have hJ2:(0:Int)<=(j:Int):=by omega
   have hJ3:(j:Int)<(ts.length:Int)+1:=by omega
   have zm:(j:Int)<(N:Int):=by omega
   have hown2:Hid (∀ob,(wr.alloc ob).drew.ownsRow wc0.heap.size 116 2 (.slice a os.length cp) os.length (zc1 os)):=hid (λob=>hr.out.own.kept (Below.zfn ((Below.refl wr.heap.size wr).alloc (Qc _) ob).drew) (by
    cases h:(Value.slice a os.length cp).ownBlock with
    | none=>exact .inl rfl
    | some g=>exact .inr (by simp)))
   have hnew:Hid (∀i v,([Value.string u,.int .i64 y]:List Value)[i]?=some v->(wr.alloc (.cells #[.string u,.int .i64 y] 116)).drew.cell? ((⟨wr.heap.size,0,none⟩:Addr).add i)=some v):=hid (λi v hi=>World.news_of_block (za1 wr _) i v (by exact hi));have hone:Hid (∀v∈([Value.string u,.int .i64 y]:List Value),v.oneCell'=true):=hid (by
    intro v hv;simp at hv;rcases hv with rfl|rfl<;>rfl)
   have hkeep:Hid (∀w1,Below wc0.heap.size wc0 w1->w1.cell? ⟨b,o+j*2,none⟩=some (.string s)/\w1.cell? ⟨b,o+j*2+1,none⟩=some (.int .i64 y)/\w1.cell? ⟨w.heap.size,3,none⟩=some (.int .i64 (m.zaa:Nat))):=hid (λw1 h1=>⟨(h1.cell (p:=⟨b,o+j*2,none⟩) fq).trans hcA,(h1.cell (p:=⟨b,o+j*2+1,none⟩) fq).trans hcB,(h1.cell (p:=⟨w.heap.size,3,none⟩) jg).trans wm.out⟩);have hbd:Hid (Below wc0.heap.size wc0 wr.drew):=hid hr.out.below.drew;have hkd:=hkeep.out _ hbd.out;have hka:Hid (∀ob,(wr.alloc ob).drew.cell? ⟨b,o+j*2,none⟩=some (.string s)/\(wr.alloc ob).drew.cell? ⟨b,o+j*2+1,none⟩=some (.int .i64 y)/\(wr.alloc ob).drew.cell? ⟨w.heap.size,3,none⟩=some (.int .i64 (m.zaa:Nat))):=hid (λob=>hkeep.out _ (hr.out.below.alloc jq ob).drew);have hstep:Hid (∀ob g gq w1,w1.ownsRow wc0.heap.size 116 2 (.slice (some ⟨g,0,none⟩) (os.length+1) gq) (os.length+1) (zc1 os++[.string u,.int .i64 y])->(wr.alloc ob).drew.grownBy w1 (Value.slice a os.length cp).ownBlock->ORel w wc0 m.zaa (((s0,z0):Ln)::ts) z (j+1) (os++[(u,y)]) (some ⟨g,0,none⟩) gq w1):=hid (λob g gq w1 ho hgw=>by
    have qy:=hr.out.own.lt;refine⟨by rw[Qa,hr.out.len];rfl,?_,?_,hr.out.num.z4t u y (by rw[hr.out.len];exact hny),?_,?_⟩
    ·rw[List.take_add_one,hd];simp only[Option.toList_some,Qv,Qs,List.map_nil,<-hr.out.spec];rw[<-hu];simp[datL,dat,zcl,S.zaz]
    ·have e:(((s0,z0):Ln)::ts).take (j+1)=(((s0,z0):Ln)::ts).take j++[(s,y)]:=(by rw[List.take_add_one,hp];rfl);rw[e,zl7,zl7];have:=hr.out.small;dsimp only;omega
    ·rw[Qa,zey];exact ho
    ·exact Below.grown (hr.out.below.alloc jq ob).drew hgw (by simp;omega) (λq hq=>(qy q hq).1))
   have yj:=hid hcr;clear hp hd hny hcA hcB hu;go_upto_region 10 with fail
   go_region_held3 (λw'=>w'.cell? ⟨b,o+j*2,none⟩=some (.string s)/\w'.cell? ⟨b,o+j*2+1,none⟩=some (.int .i64 y)/\w'.cell? ⟨w.heap.size,3,none⟩=some (.int .i64 (m.zaa:Nat)))
    (with_reducible first|exact⟨hcr,hcy,hcm⟩|exact hkd|exact hka.out _|exact hk1)
    ((first|(go_at_call 132;refine(zn.out _).mono ?_;rintro e w'⟨rfl,rfl⟩)|(refine step_append_lies _ (by rfl) _ _ 83 (by rfl) wc0.heap.size 116 i0 (.agg #[.string ⟨#[]⟩,.int .i64 0]) 2 24 underlying83 hi hi0 hi1 hi2 (by rfl) (by omega) (.slice a os.length cp) os.length (zc1 os) (by rfl) (hown2.out _) ⟨wr.heap.size,0,none⟩ 1 1 [.string u,.int .i64 y] (by rfl) (by rfl) hnew.out hone.out (by omega) (by unfold maxLen;omega) (by omega) (by simp;omega) (wr.heap.size+1) (by simp) ?_;intro g gq w1 hown1 hgrow hat qx;have vv:=hid (hstep.out _ g gq w1 hown1 hgrow);have hk1:=hkeep.out w1 vv.out.below;clear hown1 hgrow hat qx)))
   clear hk1;go_wp2;go_roundw
   case rel=>exact⟨j+1,os.length+1,some ⟨g,0,none⟩,gq,by omega,by go_num,rfl,hid ⟨os++[(u,y)],by simp,vv.out⟩⟩
   case measure=>simp[intOf];omega
  ·have yh:j=N:=by omega
   subst yh;have hspec:Hid (datL os=((datL (((s0,z0):Ln)::ts)).take j).map (λl=>l.drop m.zaa)):=hid hr.out.spec;have hpos:0<os.length:=by rw[hr.out.len];exact hN1
   obtain⟨g,rfl,hg0,hg1,hcp,ny⟩:=zrx hr.out.own (by have:=hr.out.small;have:=(dh.out.take j).2;omega) hpos;have hB0:=yx.out g 0 cp os z wr hcp hg1 ny hr.out.num (by rw[hspec.out];exact hNb.out);rw[hspec.out,zh.out] at hB0;obtain⟨RR,hRR⟩:=Qyy (S.za2 d (S.zah m (datL (((s0,z0):Ln)::ts))));rw[hRR] at hB0;obtain⟨bs,gp⟩:=RR;dsimp only at hB0;have hB:=hid hB0;have pq:=hid hRR;have vk:w.heap.size+1<wr.heap.size:=Qh jh jq;have xq:=hid ((hr.out.below.block (w.heap.size+1) jh).trans hxc.out);have yw:=hid (tq.out.trans (hr.out.below.mono (Nat.le_of_lt jg)));have hcy:wr.cell? ⟨b,o+1,none⟩=some (.int .i64 z0):=(hr.out.below.cell (p:=⟨b,o+1,none⟩) fq).trans (by simpa using (dh.out.1 0 (s0,z0) rfl).2);have qz:=hid hcy;have zm:¬(j:Int)<(j:Int):=by omega
   have hnb:b≠w.heap.size+1:=by omega
   clear ny hg0 hg1 hcp hRR hB0 hcy;go_wp2_with (fail);refine hB.out.mono ?_;rintro e w2⟨kv,ns,rfl,hrep,hM,hb2⟩;obtain⟨ka,kn,kc,rfl⟩:=hrep.form;have hx2:=(hb2.block (w.heap.size+1) vk).trans xq.out;have hw2:w.heap.size+1<w2.heap.size:=Qh vk hb2.size;have hcy:w2.cell? ⟨b,o+1,none⟩=some (.int .i64 z0):=(hb2.cell (p:=⟨b,o+1,none⟩) jm).trans qz.out;have d0:w2.cell? ⟨w.heap.size+1,0,none⟩=some (.int .i64 0):=za0 hx2 0 _ rfl;have d1:w2.cell? ⟨w.heap.size+1,1,none⟩=some (.int .i64 0):=za0 hx2 1 _ rfl;have d2:w2.cell? ⟨w.heap.size+1,2,none⟩=some (.int .i64 0):=za0 hx2 2 _ rfl;have d3:w2.cell? ⟨w.heap.size+1,3,none⟩=some (.string ⟨#[]⟩):=za0 hx2 3 _ rfl;have d4:w2.cell? ⟨w.heap.size+1,4,none⟩=some (.string ⟨#[]⟩):=za0 hx2 4 _ rfl;have d5:w2.cell? ⟨w.heap.size+1,5,none⟩=some (.int .i64 0):=za0 hx2 5 _ rfl;have d6:w2.cell? ⟨w.heap.size+1,6,none⟩=some (.slice none 0 0):=za0 hx2 6 _ rfl;have g0:=za7 hx2;have hzz:=hid (set7 hx2 (.int .i64 0) (.int .i64 7) (.int .i64 0) (.string ⟨#[]⟩) (.string ⟨#[]⟩) (.int .i64 z0) (.slice ka kn kc));have hbw2:Below w.heap.size w w2:=yw.out.trans (hb2.mono (by omega));have hbz:=hid (zbb (N:=w.heap.size+1) hbw2 (Nat.le_succ _) (.int .i64 0) (.int .i64 7) (.int .i64 0) (.string ⟨#[]⟩) (.string ⟨#[]⟩) (.int .i64 z0) (.slice ka kn kc));have hrz:=hid (zcw hrep (N:=w.heap.size+1) (λx hx e=>by have:=hx.1;omega) (.int .i64 0) (.int .i64 7) (.int .i64 0) (.string ⟨#[]⟩) (.string ⟨#[]⟩) (.int .i64 z0) (.slice ka kn kc));have yt:w.heap.size<=wr.heap.size:=by omega
   have xg:=hid hz;clear hx2 hb2 hrep hbw2 hz;go_wp2;refine bodyPost_ret (v:=.tuple #[.agg #[.int .i64 0,.int .i64 7,.int .i64 0,.string ⟨#[]⟩,.string ⟨#[]⟩,.int .i64 z0,.slice ka kn kc],.int .i64 (j:Int),.bool gp]) (by have z0:=za0 hzz.out 0 _ rfl;have z1:=za0 hzz.out 1 _ rfl;have z2:=za0 hzz.out 2 _ rfl;have z3:=za0 hzz.out 3 _ rfl;have z4:=za0 hzz.out 4 _ rfl;have z5:=za0 hzz.out 5 _ rfl;have z6:=za0 hzz.out 6 _ rfl;simp[results,results142,go_sem,z0,z1,z2,z3,z4,z5,z6]) rfl ?_;exact⟨.slice ka kn kc,ns,by rw[zk.out,pq.out,<-xg.out];rfl,hrz.out.move (λx hx=>⟨by have:=hx.1;omega,by rw[zho];exact hx.2⟩) (λ_ _=>rfl),hid (by rw[pq.out];exact hM.out),hbz.out⟩
end Go.Proofs.YtlojgpkajkedeaaGreatDoor
