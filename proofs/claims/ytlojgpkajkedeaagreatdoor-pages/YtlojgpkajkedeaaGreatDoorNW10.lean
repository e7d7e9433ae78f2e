import Derived.Test.YtlojgpkajkedeaaGreatDoorNW9
import Derived.Deep.QuietTactic
import Derived.BigQuiet
set_option maxHeartbeats 16000000
set_option maxRecDepth 100000
namespace Go.Proofs.YtlojgpkajkedeaaGreatDoor
open Go.RowKit Go.Proofs.Tryz
theorem Below.zfn {w w':World}(hb:Below w.heap.size w w'):w.grownBy w' none:=⟨hb.os,hb.tape,hb.output,hb.size,λk hk _=>hb.block k hk⟩
theorem ze6 {T e B b:Nat}{bs:List Value}{w w':World}(h:Lib.IsBuilderF T e B b bs w)(hb:Below w.heap.size w w'):Lib.IsBuilderF T e B b bs w':=by
 have key:∀p,Lib.BuilderAtF T e B b p bs w->Lib.BuilderAtF T e B b p bs w':=by
  intro p hp;have hlt:=hp.lt;obtain⟨hB,v,hv,hown,hne⟩:=hp;refine⟨hB,v,(hb.block b hlt).trans hv,World.ownsRowF.kept hown (Below.zfn hb) ?_,hne⟩;cases hv':v.ownBlock with
  | none=>exact .inl rfl
  | some g=>exact .inr (by simp)
 exact h.elim (λx=>.inl (key _ x)) (λx=>.inr (key _ x))
theorem zet (c:UInt8)(width:Nat)(l:List (List UInt8))(k:Nat)(h:∀j,j<k->(l[j]?.map (S.zcg c width))=some false)(he:(l[k]?.map (S.zcg c width))≠some false):S.zb2 c width l=k:=by
 induction l generalizing k with
 | nil=>cases k with
  | zero=>simp[S.zb2]
  | succ k=>have:=h 0 (by omega);simp at this
 | cons x r ih=>cases k with
  | zero=>simp at he;simp[S.zb2,he]
  | succ k=>
   have h0:=h 0 (by omega);simp at h0;have:=ih k (λj hj=>by have:=h (j+1) (by omega);simpa using this) (by simpa using he);simp[S.zb2,this,h0]
theorem zh9 (ind:Nat)(ss:List ByteArray)(k:Nat)(s:ByteArray)(h:ss[k]?=some s):S.zam ind ((dat ss).take (k+1))=S.zam ind ((dat ss).take k)++(s.data.toList.drop (min ind (S.indent s.data.toList))++[10]):=by
 have hg:(dat ss)[k]?=some s.data.toList:=by rw[zd0,h];rfl
 rw[List.take_add_one,hg];simp[S.zam]
theorem zit (ind:Nat)(ss:List ByteArray)(k:Nat):(S.zam ind ((dat ss).take k)).length<=tot ss:=by
 induction ss generalizing k with
 | nil=>simp[S.zam,dat,tot]
 | cons s r ih=>cases k with
  | zero=>simp[S.zam]
  | succ k=>
   have:=ih k;simp only[S.zam,dat,tot,Qs,Qz,List.flatten_cons,Qa,Qf,List.sum_cons,List.length_singleton] at *;rw[S.lda];omega
theorem zn5 (b o cap:Nat)(s0:ByteArray)(ts:List ByteArray)(c:UInt8)(width ind:Nat)(info:ByteArray)(w:World)(hbw:b<w.heap.size)(hrow:RowS w b o (s0::ts))(hind:ind<=1000000):Calls prog 118 #[.slice (some ⟨b,o,none⟩) (ts.length+1) cap,.agg #[.int .u8 (c.toNat:Int),.int .i64 (width:Int),.int .i64 (ind:Int),.string info]] w λe w'=>
   e=.returned (.tuple #[.agg #[.int .i64 3,.int .i64 0,.slice none 0 0,.int .i64 0,.string info,.string (S.B (S.zam ind ((dat ts).take (S.zb2 c width (dat ts))))),.bool false,.slice none 0 0],.int .i64 ((min (S.zb2 c width (dat ts)+1+1) (ts.length+1):Nat):Int)])/\Below w.heap.size w w':=by
 have htot:=hrow.2;have hlen:=hrow.len;simp only[Qd] at hlen;go_enter func118,ntmps118;go_wp2;obtain⟨WA,jw⟩:=Qzz (((w.alloc (.cells #[.int .u8 (c.toNat:Int),.int .i64 (width:Int),.int .i64 (ind:Int),.string info] 181)).alloc (.cells #[.int .i64 0,.int .i64 0,.slice none 0 0,.int .i64 0,.string ⟨#[]⟩,.string ⟨#[]⟩,.bool false,.slice none 0 0] 110)).alloc (.cells #[.int .i64 3,.int .i64 0,.slice none 0 0,.int .i64 0,.string info,.string ⟨#[]⟩,.bool false,.slice none 0 0] 110));have hsA:WA.heap.size=w.heap.size+3:=by rw[jw];simp
 have qg:Below w.heap.size w WA:=by
  rw[jw];exact(((Below.refl _ w).alloc (Qc _) _).alloc (by simp) _).alloc (by simp;omega) _
 have hx0:WA.heap[w.heap.size]?=some (.cells #[.int .u8 (c.toNat:Int),.int .i64 (width:Int),.int .i64 (ind:Int),.string info] 181):=by
  rw[jw,Below.heap_alloc _ _ _ (by simp;omega),Below.heap_alloc _ _ _ (by simp)];exact za1 _ _
 have hx1:WA.heap[w.heap.size+1]?=some (.cells #[.int .i64 0,.int .i64 0,.slice none 0 0,.int .i64 0,.string ⟨#[]⟩,.string ⟨#[]⟩,.bool false,.slice none 0 0] 110):=by
  have h1:(w.alloc (.cells #[.int .u8 (c.toNat:Int),.int .i64 (width:Int),.int .i64 (ind:Int),.string info] 181)).heap.size=w.heap.size+1:=by simp
  rw[jw,Below.heap_alloc _ _ _ (by simp),<-h1];exact za1 _ _
 have hx2:WA.heap[w.heap.size+2]?=some (.cells #[.int .i64 3,.int .i64 0,.slice none 0 0,.int .i64 0,.string info,.string ⟨#[]⟩,.bool false,.slice none 0 0] 110):=by
  have h1:((w.alloc (.cells #[.int .u8 (c.toNat:Int),.int .i64 (width:Int),.int .i64 (ind:Int),.string info] 181)).alloc (.cells #[.int .i64 0,.int .i64 0,.slice none 0 0,.int .i64 0,.string ⟨#[]⟩,.string ⟨#[]⟩,.bool false,.slice none 0 0] 110)).heap.size=w.heap.size+2:=by simp
  rw[jw,<-h1];exact za1 _ _
 have pz:=zg3 WA;rw[hsA] at pz;have jk:=hrow.below qg hbw;rw[<-jw];have pq:=hid pz;have ng:=hid hx0;have kg:=hid hx1;have jy:=hid hx2;have lg:=hid jk;have kr:=hid hsA;clear pz hx0 hx1 hx2 jk hsA hrow jw;go_loopw [8,9] (λi _ wr=>∃k:Nat,k<=ts.length/\i=.int .i64 ((k:Int)+1)/\(∀j,j<k->((dat ts)[j]?.map (S.zcg c width))=some false)/\Lib.IsBuilderF 104 5 (w.heap.size+3) (w.heap.size+3) (Lib.byteCells (S.zam ind ((dat ts).take k))) wr/\Below (w.heap.size+3) WA wr) (λi _ _=>ts.length+1-(intOf i).toNat)
 case atStart=>
  refine⟨0,Qt _,rfl,by intro j hj;omega,?_,?_⟩
  ·simpa [S.zam] using pq.out
  ·exact(Below.refl _ _).alloc (by rw[kr.out];exact Qc _) _
 case round=>
  obtain⟨k,hk,rfl,hall,mh,hbel⟩:=hrel;have hsz:=hbel.size;have hsA':=kr.out;have hBw:w.heap.size+3<=wr.heap.size:=by omega
  have hx0':=hbel.block w.heap.size (by omega);rw[ng.out] at hx0';have q0:=za0 hx0' 0 _ rfl;have q1:=za0 hx0' 1 _ rfl;have q2:=za0 hx0' 2 _ rfl;have q3:=za0 hx0' 3 _ rfl;have dh:=hid mh;have bg:=hid hbel;have dw:=hid hall;clear hsz hsA' hx0' mh hbel hall;by_cases hlt:k<ts.length
  ·obtain⟨s,hs⟩:∃s,ts[k]?=some s:=⟨ts[k],Qg hlt⟩;have hs1:(s0::ts)[k+1]?=some s:=by simpa using hs
   have hcell:wr.cell? ⟨b,o+(k+1),none⟩=some (.string s):=(bg.out.cell (p:=⟨b,o+(k+1),none⟩) (by show b<_;omega)).trans (lg.out.1 (k+1) s hs1);have hsm:s.size<=maxLen:=by have:=zdg _ _ s hs1;unfold maxLen;omega
   have hI1:(0:Int)<=(k:Int)+1:=by omega
   have hI2:(k:Int)+1<(ts.length:Int)+1:=by omega
   have hL1:w.heap.size<wr.heap.size:=by omega
   have hL2:b<wr.heap.size:=by omega
   have hg:(dat ts)[k]?=some s.data.toList:=by rw[zd0,hs];rfl
   have hsn:=hid (zh9 ind ts k s hs);have hle2:=zit ind ts (k+1);have qp:tot ts<=1000000:=by
    have:tot ts<=tot (s0::ts):=(by simp[tot]);omega
   rw[hsn.out,Qa,Qa,Qf,S.lda] at hle2;simp only[List.length_singleton] at hle2;have hil:S.indent s.data.toList<=s.size:=by have:=S.zby s.data.toList;rw[S.lda] at this;exact this
   cases hcl:S.zcg c (width:Int) s.data.toList
   ·have mq:=hid (λwx=>hcl▸zkl c (width:Int) (ind:Int) info s wx hsm);have jl:Hid (∀j,j<k+1->((dat ts)[j]?.map (S.zcg c width))=some false):=by
     intro j hj;by_cases e:j=k
     ·subst e;rw[hg,Option.map_some,hcl]
     ·exact dw.out j (by omega)
    clear hg hs hs1 hcl;go_wp2_with (fail);go_region_held3 (λw'=>w'.cell? ⟨w.heap.size,0,none⟩=some (.int .u8 (c.toNat:Int))/\w'.cell? ⟨w.heap.size,1,none⟩=some (.int .i64 (width:Int))/\w'.cell? ⟨w.heap.size,2,none⟩=some (.int .i64 (ind:Int))/\w'.cell? ⟨w.heap.size,3,none⟩=some (.string info)/\w'.cell? ⟨b,o+(k+1),none⟩=some (.string s))
    ((refine⟨?_,?_,?_,?_,?_⟩<;>(first|assumption|(rw[hc1 _ _ (by first|exact hL1|exact hL2)];assumption))))
    ((go_at_call 176;refine(mq.out _).mono ?_;rintro e w1⟨rfl,hb1⟩;obtain⟨hc1,hf1⟩:=zne hb1))
    have hbW:Below wr.heap.size wr w1:=by first|exact hb1|exact(Below.refl _ _).drew.trans hb1
    have q2':w1.cell? ⟨w.heap.size,2,none⟩=some (.int .i64 (ind:Int)):=(hbW.cell (p:=⟨w.heap.size,2,none⟩) hL1).trans q2;have hcell':w1.cell? ⟨b,o+(k+1),none⟩=some (.string s):=(hbW.cell (p:=⟨b,o+(k+1),none⟩) hL2).trans hcell;have fq:=hid (ze6 dh.out hbW);have gq:=hid (bg.out.trans (hbW.mono hBw));have hBw1:w.heap.size+3<=w1.heap.size:=Qj hBw hbW.size;obtain⟨t,ht⟩:=Qyy (S.indent s.data.toList);have qh:Hid (∀wx,Calls prog 112 #[.string s] wx λe w'=>e=.returned (.int .i64 (t:Nat))/\w'=wx):=hid (λwx=>by
     have:=zba s wx hsm;rw[ht] at this;exact this)
    have htl:t<=s.size:=(by omega);have lq:Hid (∀x:Nat,x=min ind t->(s.extract x s.size).data.toList=s.data.toList.drop (min ind (S.indent s.data.toList))):=hid (by
     intro x hx;rw[S.zbf,hx,ht])
    rw[ht] at hle2;clear hb1 hc1 hf1 hbW hcell q0 q1 q2 q3 hil ht mq dw dh bg;by_cases hmn:ind<=t
    ·have ny:min (ind:Int) (t:Int)=(ind:Int):=(by omega);have qm:(0:Int)<=(ind:Int):=(by omega);have qj:(ind:Int)<=(s.size:Int):=(by omega);have hxd:=hid (lq.out ind (by omega));have hxl:(s.extract ind s.size).size+(S.zam ind ((dat ts).take k)).length+1<=1000000:=(by rw[ByteArray.size_extract];omega);have hWS:=hid (λwx h hB=>Tryz.zfh (w.heap.size+3) (w.heap.size+3) (Lib.byteCells (S.zam ind ((dat ts).take k))) (s.extract ind s.size) wx h (by rw[Lib.byteCells_length];omega) hB);go_wp2_with (fail);go_region_held3 (λw'=>w'.cell? ⟨w.heap.size,2,none⟩=some (.int .i64 (ind:Int)))
      ((first|assumption|(rw[hb2.cell (p:=⟨w.heap.size,2,none⟩) (by simp)];assumption)))
      (first|(go_at_call 112;refine(qh.out _).mono ?_;rintro e w''⟨rfl,rfl⟩)|(go_at_call 60;refine(hWS.out w1.drew (ze6 fq.out (Below.refl _ _).drew) hBw1).mono ?_;rintro e w2⟨rfl,jh,hb2,_⟩))
     have hBw2:w.heap.size+3<=w2.heap.size:=Qj hBw1 hb2.size;have jq:=hid jh;have gy:=hid hb2;clear jh hb2;go_wp2_with (fail);refine(Tryz.zhd (w.heap.size+3) (w.heap.size+3) _ 10 _ (.inr jq.out) (by rw[Qa,Lib.byteCells_length,Lib.strCells_length];omega) hBw2).mono ?_;rintro e w3⟨rfl,jg,hb3,_⟩;have jd:=hid jg;have jm:=hid hb3;clear jg hb3;go_wp2;go_roundw
     case rel=>
      refine⟨k+1,by omega,by go_num,jl.out,?_,?_⟩
      ·have:=jd.out;rw[zfj _ _ _ hxd.out,<-hsn.out] at this;exact .inr this
      ·exact(gq.out.trans (by first|exact gy.out|exact(Below.refl _ _).drew.trans gy.out)).trans jm.out
     case measure=>simp[intOf];omega
    ·have ny:min (ind:Int) (t:Int)=(t:Int):=(by omega);have qm:(0:Int)<=(t:Int):=(by omega);have qj:(t:Int)<=(s.size:Int):=(by omega);have hxd:=hid (lq.out t (by omega));have hxl:(s.extract t s.size).size+(S.zam ind ((dat ts).take k)).length+1<=1000000:=(by rw[ByteArray.size_extract];omega);have hWS:=hid (λwx h hB=>Tryz.zfh (w.heap.size+3) (w.heap.size+3) (Lib.byteCells (S.zam ind ((dat ts).take k))) (s.extract t s.size) wx h (by rw[Lib.byteCells_length];omega) hB);go_wp2_with (fail);go_region_held3 (λw'=>w'.cell? ⟨w.heap.size,2,none⟩=some (.int .i64 (ind:Int)))
      ((first|assumption|(rw[hb2.cell (p:=⟨w.heap.size,2,none⟩) (by simp)];assumption)))
      (first|(go_at_call 112;refine(qh.out _).mono ?_;rintro e w''⟨rfl,rfl⟩)|(go_at_call 60;refine(hWS.out w1.drew (ze6 fq.out (Below.refl _ _).drew) hBw1).mono ?_;rintro e w2⟨rfl,jh,hb2,_⟩))
     have hBw2:w.heap.size+3<=w2.heap.size:=Qj hBw1 hb2.size;have jq:=hid jh;have gy:=hid hb2;clear jh hb2;go_wp2_with (fail);refine(Tryz.zhd (w.heap.size+3) (w.heap.size+3) _ 10 _ (.inr jq.out) (by rw[Qa,Lib.byteCells_length,Lib.strCells_length];omega) hBw2).mono ?_;rintro e w3⟨rfl,jg,hb3,_⟩;have jd:=hid jg;have jm:=hid hb3;clear jg hb3;go_wp2;go_roundw
     case rel=>
      refine⟨k+1,by omega,by go_num,jl.out,?_,?_⟩
      ·have:=jd.out;rw[zfj _ _ _ hxd.out,<-hsn.out] at this;exact .inr this
      ·exact(gq.out.trans (by first|exact gy.out|exact(Below.refl _ _).drew.trans gy.out)).trans jm.out
     case measure=>simp[intOf];omega
   ·have mq:=hid (λwx=>hcl▸zkl c (width:Int) (ind:Int) info s wx hsm);have hfs:Hid (S.zb2 c width (dat ts)=k):=hid (zet _ _ _ k dw.out (by rw[hg,Option.map_some,hcl];simp));clear hg hs hs1 hcl;go_wp2_with (fail);go_region_held3 (λw'=>w'.cell? ⟨w.heap.size,0,none⟩=some (.int .u8 (c.toNat:Int))/\w'.cell? ⟨w.heap.size,1,none⟩=some (.int .i64 (width:Int))/\w'.cell? ⟨w.heap.size,2,none⟩=some (.int .i64 (ind:Int))/\w'.cell? ⟨w.heap.size,3,none⟩=some (.string info)/\w'.cell? ⟨b,o+(k+1),none⟩=some (.string s))
    ((refine⟨?_,?_,?_,?_,?_⟩<;>(first|assumption|(rw[hc1 _ _ (by first|exact hL1|exact hL2)];assumption))))
    ((go_at_call 176;refine(mq.out _).mono ?_;rintro e w1⟨rfl,hb1⟩;obtain⟨hc1,hf1⟩:=zne hb1))
    have hbW:Below wr.heap.size wr w1:=by first|exact hb1|exact(Below.refl _ _).drew.trans hb1
    have fq:=hid (ze6 dh.out hbW);have gq:=hid (bg.out.trans (hbW.mono hBw));have hBw1:w.heap.size+3<=w1.heap.size:=Qj hBw hbW.size;have ny:min ((k:Int)+1+1) ((ts.length:Int)+1)=(k:Int)+1+1:=(by omega);have dx:Hid (Ending.returned (.tuple #[.agg #[.int .i64 3,.int .i64 0,.slice none 0 0,.int .i64 0,.string info,.string ⟨(S.zam ind ((dat ts).take k)).toArray⟩,.bool false,.slice none 0 0],.int .i64 ((k:Int)+1+1)])=.returned (.tuple #[.agg #[.int .i64 3,.int .i64 0,.slice none 0 0,.int .i64 0,.string info,.string (S.B (S.zam ind ((dat ts).take k))),.bool false,.slice none 0 0],.int .i64 ((min (k+1+1) (ts.length+1):Nat):Int)])):=hid (by
     rw[Nat.min_eq_left (by omega)];rfl)
    clear hb1 hc1 hf1 hbW hcell q0 q1 q2 q3 hil mq dw dh bg;go_wp2_with (fail);refine(Tryz.zp4 (w.heap.size+3) (w.heap.size+3) _ _ fq.out hBw1).mono ?_;rintro e w4⟨rfl,_,hb4,_⟩;have hb:=gq.out.trans hb4;have hk1:=hb.block (w.heap.size+1) (by omega);rw[kg.out] at hk1;have hk2:=hb.block (w.heap.size+2) (by omega);rw[jy.out] at hk2;have d0:=za0 hk1 0 _ rfl;have d1:=za0 hk1 1 _ rfl;have d2:=za0 hk1 2 _ rfl;have d3:=za0 hk1 3 _ rfl;have d4:=za0 hk1 4 _ rfl;have d5:=za0 hk1 5 _ rfl;have d6:=za0 hk1 6 _ rfl;have d7:=za0 hk1 7 _ rfl;have g0:=za7 hk1;have e0:=za0 hk2 0 _ rfl;have e1:=za0 hk2 1 _ rfl;have e2:=za0 hk2 2 _ rfl;have e3:=za0 hk2 3 _ rfl;have e4:=za0 hk2 4 _ rfl;have e5:=za0 hk2 5 _ rfl;have e6:=za0 hk2 6 _ rfl;have e7:=za0 hk2 7 _ rfl;have g1:=za7 hk2;have qb:=hid hb;clear hk1 hk2 hb hb4;go_wp2;refine bodyPost_ret (v:=.tuple #[.agg #[.int .i64 3,.int .i64 0,.slice none 0 0,.int .i64 0,.string info,.string ⟨(S.zam ind ((dat ts).take k)).toArray⟩,.bool false,.slice none 0 0],.int .i64 ((k:Int)+1+1)]) (by simp[results,results118,go_sem,d0,d1,d2,d3,d4,d5,d6,d7]) rfl ⟨?_,?_⟩
    ·rw[hfs.out];exact dx.out
    ·repeat (refine Below.setCell ?_ (by simp<;>omega) _)
     exact qg.trans (qb.out.mono (by omega))
  ·have hkn:k=ts.length:=by omega
   have hfs:Hid (S.zb2 c width (dat ts)=k):=hid (zet _ _ _ k dw.out (by rw[Qr (by rw[zai];omega)];simp));have hg0:decide ((k:Int)+1<(ts.length:Int)+1)=false:=by rw[decide_eq_false_iff_not];omega
   have ny:min ((k:Int)+1+1) ((ts.length:Int)+1)=(k:Int)+1:=by omega
   have dx:Hid (Ending.returned (.tuple #[.agg #[.int .i64 3,.int .i64 0,.slice none 0 0,.int .i64 0,.string info,.string ⟨(S.zam ind ((dat ts).take k)).toArray⟩,.bool false,.slice none 0 0],.int .i64 ((k:Int)+1)])=.returned (.tuple #[.agg #[.int .i64 3,.int .i64 0,.slice none 0 0,.int .i64 0,.string info,.string (S.B (S.zam ind ((dat ts).take k))),.bool false,.slice none 0 0],.int .i64 ((min (k+1+1) (ts.length+1):Nat):Int)])):=hid (by
     rw[Nat.min_eq_right (by omega),<-hkn];rfl)
   clear hkn;go_wp2_with (fail);go_quiet (fail)
   go_wp2_with (fail);refine(Tryz.zp4 (w.heap.size+3) (w.heap.size+3) _ _ (ze6 dh.out (below_drewN (Below.refl _ _) _)) hBw).mono ?_;rintro e w4⟨rfl,_,hb4,_⟩;have hb:=(below_drewN bg.out _).trans hb4;have hk1:=hb.block (w.heap.size+1) (by omega);rw[kg.out] at hk1;have hk2:=hb.block (w.heap.size+2) (by omega);rw[jy.out] at hk2;have d0:=za0 hk1 0 _ rfl;have d1:=za0 hk1 1 _ rfl;have d2:=za0 hk1 2 _ rfl;have d3:=za0 hk1 3 _ rfl;have d4:=za0 hk1 4 _ rfl;have d5:=za0 hk1 5 _ rfl;have d6:=za0 hk1 6 _ rfl;have d7:=za0 hk1 7 _ rfl;have g0:=za7 hk1;have e0:=za0 hk2 0 _ rfl;have e1:=za0 hk2 1 _ rfl;have e2:=za0 hk2 2 _ rfl;have e3:=za0 hk2 3 _ rfl;have e4:=za0 hk2 4 _ rfl;have e5:=za0 hk2 5 _ rfl;have e6:=za0 hk2 6 _ rfl;have e7:=za0 hk2 7 _ rfl;have g1:=za7 hk2;have qb:=hid hb;clear hk1 hk2 hb hb4;go_wp2;refine bodyPost_ret (v:=.tuple #[.agg #[.int .i64 3,.int .i64 0,.slice none 0 0,.int .i64 0,.string info,.string ⟨(S.zam ind ((dat ts).take k)).toArray⟩,.bool false,.slice none 0 0],.int .i64 ((k:Int)+1)]) (by simp[results,results118,go_sem,d0,d1,d2,d3,d4,d5,d6,d7]) rfl ⟨?_,?_⟩
   ·rw[hfs.out];exact dx.out
   ·repeat (refine Below.setCell ?_ (by simp<;>omega) _)
    exact qg.trans (qb.out.mono (by omega))
end Go.Proofs.YtlojgpkajkedeaaGreatDoor
