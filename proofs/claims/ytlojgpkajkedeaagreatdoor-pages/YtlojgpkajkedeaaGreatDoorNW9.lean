import Derived.Test.YtlojgpkajkedeaaGreatDoorNStr
import Derived.Test.YtlojgpkajkedeaaGreatDoorNW7
import Derived.Deep.RegionHeld3
import Derived.Deep.DeepCutAuto
set_option maxHeartbeats 16000000
set_option maxRecDepth 100000
namespace Go.Proofs.YtlojgpkajkedeaaGreatDoor
open Go.RowKit Go.Proofs.Tryz
def tot (ss:List ByteArray):Nat:=(ss.map (λs=>s.size+1)).sum
theorem zjl (ss:List ByteArray):ss.length<=tot ss:=by
 induction ss with
 | nil=>simp[tot]
 | cons s r ih=>simp only[tot,Qs,List.sum_cons,Qd] at *;omega
theorem zdg (ss:List ByteArray)(k:Nat)(s:ByteArray)(h:ss[k]?=some s):s.size<tot ss:=by
 induction ss generalizing k with
 | nil=>simp at h
 | cons x r ih=>
  simp only[tot,Qs,List.sum_cons] at *;cases k with
  | zero=>simp at h;subst h;omega
  | succ k=>have:=ih k (by simpa using h);omega
def RowS (w:World)(b o:Nat)(ss:List ByteArray):Prop:=(∀i s,ss[i]?=some s->w.cell? ⟨b,o+i,none⟩=some (.string s))/\tot ss<=1000000
theorem RowS.row {w:World}{b o:Nat}{ss:List ByteArray}(h:RowS w b o ss):Row w b o ss:=by
 intro i s hi;exact⟨h.1 i s hi,by have:=zdg ss i s hi;have:=h.2;omega⟩
theorem RowS.len {w:World}{b o:Nat}{ss:List ByteArray}(h:RowS w b o ss):ss.length<=1000000:=Qj (zjl ss) h.2
theorem RowS.below {w w':World}{n b o:Nat}{ss:List ByteArray}(h:RowS w b o ss)(hb:Below n w w')(hn:b<n):RowS w' b o ss:=
 ⟨λi s hi=>(hb.cell (p:=⟨b,o+i,none⟩) hn).trans (h.1 i s hi),h.2⟩
theorem zuq (ss:List ByteArray)(k:Nat):tot (ss.drop k)<=tot ss:=by
 induction ss generalizing k with
 | nil=>simp[tot]
 | cons s r ih=>cases k with
  | zero=>simp
  | succ k=>have:=ih k;simp only[List.drop_succ_cons];simp only[tot,Qs,List.sum_cons] at *;omega
theorem RowS.drop {w:World}{b o:Nat}{ss:List ByteArray}(h:RowS w b o ss)(k:Nat):RowS w b (o+k) (ss.drop k):=by
 refine⟨λi s hi=>?_,Qj (zuq ss k) h.2⟩;rw[Qn] at hi;have:=h.1 (k+i) s hi;rw[Nat.add_assoc];exact this
def zdu (b:S.Blk)(kv:Value):Value:=.agg #[.int .i64 b.kind,.int .i64 b.line,.slice none 0 0,.int .i64 b.n,.string (S.B b.info),.string (S.B b.text),.bool b.loose,kv]
theorem zm6 (ss:List ByteArray)(k:Nat):(S.zbn ((dat ss).take k)).length<=tot ss:=by
 induction ss generalizing k with
 | nil=>simp[S.zbn,dat,tot]
 | cons s r ih=>cases k with
  | zero=>simp[S.zbn]
  | succ k=>
   have:=ih k;simp only[S.zbn,dat,tot,Qs,Qz,List.flatten_cons,Qa,Qf,List.sum_cons,List.length_singleton] at *;rw[S.lda];omega
theorem zja (ss:List ByteArray)(k:Nat)(s:ByteArray)(h:ss[k]?=some s):S.zbn ((dat ss).take (k+1))=S.zbn ((dat ss).take k)++(s.data.toList.drop 4++[10]):=by
 have hg:(dat ss)[k]?=some s.data.toList:=by rw[zd0,h];rfl
 rw[List.take_add_one,hg];simp[S.zbn]
theorem zg3 (w:World):Lib.IsBuilderF 104 5 w.heap.size w.heap.size (Lib.byteCells []) (w.alloc (.cells #[.pointer none,.slice none 0 0] 104)):=by
 refine Lib.IsBuilderF.of (.inl ⟨Qc _,.slice none 0 0,za1 _ _,World.ownsRow_nil _ _ _ _,?_⟩);simp[Value.ownBlock]
theorem zfj (l:List UInt8)(r:ByteArray)(x:List UInt8)(h:r.data.toList=x):(Lib.byteCells l++Lib.strCells r)++[.int .u8 10]=Lib.byteCells (l++(x++[10])):=by
 rw[Lib.strCells_eq,h,Lib.byteCells_append,Lib.byteCells_append,Qp];rfl
theorem zkv (b o cap:Nat)(ss:List ByteArray)(w:World)(hpos:0<ss.length)(hcap:ss.length<=cap)(hbw:b<w.heap.size)(hrow:RowS w b o ss):Calls prog 113 #[.slice (some ⟨b,o,none⟩) ss.length cap] w λe w'=>e=.returned (.tuple #[zdu (S.zb9 (dat ss)).1 (.slice none 0 0),.int .i64 ((S.zb9 (dat ss)).2:Nat)])/\Below w.heap.size w w':=by
 have hlen:=hrow.len;have htot:=hrow.2;have hn:=S.zdx 4 (dat ss) (by rw[zai];exact hpos);have hn1:=S.zde 4 (dat ss);rw[zai] at hn;obtain⟨n,hnn⟩:=Qyy (S.zax 4 (dat ss));have hres:Hid (S.zb9 (dat ss)=(.mk 3 0 [] (S.zbn ((dat ss).take n)) false [],n)):=hid (by unfold S.zb9;rw[hnn]);have lq:Hid (∀wx,Row wx b o ss->Calls prog 166 #[.slice (some ⟨b,o,none⟩) ss.length cap,.int .i64 4] wx λe w'=>e=.returned (.int .i64 (n:Nat))/\w'=wx):=hid (λwx h=>by
  have:=zil b o cap ss 4 wx (by omega) h;rw[hnn] at this;exact this)
 rw[hnn] at hn hn1;clear hnn;go_enter func113,ntmps113;go_wp2_with fail
 refine(lq.out _ ((hrow.below ((Below.refl _ w).alloc (Qc _) _) hbw).row)).mono ?_;rintro e w'⟨rfl,rfl⟩;have kg:Below w.heap.size w (w.alloc (.cells #[.int .i64 0,.int .i64 0,.slice none 0 0,.int .i64 0,.string ⟨#[]⟩,.string ⟨#[]⟩,.bool false,.slice none 0 0] 110)):=(Below.refl _ w).alloc (Qc _) _;have dx:=hrow.below kg hbw;have hsA:(w.alloc (.cells #[.int .i64 0,.int .i64 0,.slice none 0 0,.int .i64 0,.string ⟨#[]⟩,.string ⟨#[]⟩,.bool false,.slice none 0 0] 110)).heap.size=w.heap.size+1:=by simp
 have fq:=za1 w (.cells #[.int .i64 0,.int .i64 0,.slice none 0 0,.int .i64 0,.string ⟨#[]⟩,.string ⟨#[]⟩,.bool false,.slice none 0 0] 110);have jl:=zg3 (w.alloc (.cells #[.int .i64 0,.int .i64 0,.slice none 0 0,.int .i64 0,.string ⟨#[]⟩,.string ⟨#[]⟩,.bool false,.slice none 0 0] 110));rw[hsA] at jl;generalize hWA:w.alloc (.cells #[.int .i64 0,.int .i64 0,.slice none 0 0,.int .i64 0,.string ⟨#[]⟩,.string ⟨#[]⟩,.bool false,.slice none 0 0] 110)=WA at *;have lg:=hid hWA;clear hWA;go_wp2;have jk:=hid jl;have gq:=hid fq;have jd:=hid dx;have gy:=hid hsA;clear jl fq dx hsA hrow;go_loopw [7,14] (λ_ i wr=>∃k:Nat,k<=n/\i=.int .i64 k/\Lib.IsBuilderF 104 5 (w.heap.size+1) (w.heap.size+1) (Lib.byteCells (S.zbn ((dat ss).take k))) wr/\Below (w.heap.size+1) WA wr) (λ_ i _=>n-(intOf i).toNat)
 case atStart=>
  refine⟨0,Qt _,rfl,?_,?_⟩
  ·simpa [S.zbn] using jk.out
  ·exact(Below.refl _ _).alloc (by rw[gy.out];exact Qc _) _
 case round=>
  obtain⟨k,hk,rfl,dw,hbel⟩:=hrel;have hsz:=hbel.size;have hsA':=gy.out;have hBw:w.heap.size+1<=wr.heap.size:=by omega
  clear hsz hsA';by_cases hlt:k<n
  ·obtain⟨s,hs⟩:∃s,ss[k]?=some s:=⟨ss[k],Qg (by omega)⟩;have hcell:wr.cell? ⟨b,o+k,none⟩=some (.string s):=(hbel.cell (p:=⟨b,o+k,none⟩) (by show b<_;omega)).trans (jd.out.1 k s hs);have jy:(k:Int)<(n:Int):=by omega
   have hsm:s.size<=maxLen:=by have:=zdg ss k s hs;unfold maxLen;omega
   have hsn:=hid (zja ss k s hs);have hle2:=zm6 ss (k+1);rw[hsn.out,Qa,Qa,Qf,S.lda] at hle2;simp only[List.length_singleton] at hle2;have bg:=hid dw;have dh:=hid hbel;clear hs dw hbel;go_wp2_with (fail);refine(zfa s 4 _ hsm (by omega) (by omega)).mono ?_;rintro e w1⟨r,rfl,hr,hrl,rfl⟩;have hrs:r.size=s.size-4:=by rw[<-S.lda,hr.out,Qf,S.lda];rfl
   go_wp2_with (fail);refine(Tryz.zfh (w.heap.size+1) (w.heap.size+1) _ r _ bg.out (by rw[Lib.byteCells_length];omega) hBw).mono ?_;rintro e w2⟨rfl,hat,hb2,_⟩;have hBw2:w.heap.size+1<=w2.heap.size:=Qj hBw hb2.size;have jw:=hid hat;have jq:=hid hb2;clear hat hb2;go_wp2_with (fail);refine(Tryz.zhd (w.heap.size+1) (w.heap.size+1) _ 10 _ (.inr jw.out) (by rw[Qa,Lib.byteCells_length,Lib.strCells_length];omega) hBw2).mono ?_;rintro e w3⟨rfl,jh,hb3,_⟩;have jg:=hid jh;have jm:=hid hb3;clear jh hb3;go_wp2;go_roundw
   case rel=>
    refine⟨k+1,by omega,by go_num,?_,(dh.out.trans jq.out).trans jm.out⟩;have:=jg.out;rw[zfj _ r (s.data.toList.drop 4) hr.out,<-hsn.out] at this;exact .inr this
   case measure=>simp[intOf];omega
  ·have hkn:k=n:=by omega
   subst hkn;have bg:=hid dw;have dh:=hid hbel;clear dw hbel;go_wp2_with (fail);refine(Tryz.zp4 (w.heap.size+1) (w.heap.size+1) _ _ bg.out hBw).mono ?_;rintro e w4⟨rfl,_,hb4,_⟩;have hb:=dh.out.trans hb4;have hblk:=hb.block w.heap.size (by omega);rw[gq.out] at hblk;have d0:=za0 hblk 0 _ rfl;have d1:=za0 hblk 1 _ rfl;have d2:=za0 hblk 2 _ rfl;have d3:=za0 hblk 3 _ rfl;have d4:=za0 hblk 4 _ rfl;have d5:=za0 hblk 5 _ rfl;have d6:=za0 hblk 6 _ rfl;have d7:=za0 hblk 7 _ rfl;have g0:=za7 hblk;have kr:=hid hb;clear hblk hb hb4;go_wp2;refine bodyPost_ret (v:=.tuple #[.agg #[.int .i64 3,.int .i64 0,.slice none 0 0,.int .i64 0,.string ⟨#[]⟩,.string ⟨(S.zbn ((dat ss).take k)).toArray⟩,.bool false,.slice none 0 0],.int .i64 (k:Int)]) (by simp[results,results113,go_sem,d0,d1,d2,d3,d4,d5,d6,d7]) rfl ⟨?_,?_⟩
   ·rw[hres.out];rfl
   ·repeat (refine Below.setCell ?_ (by simp) _)
    exact kg.trans (kr.out.mono (by omega))
end Go.Proofs.YtlojgpkajkedeaaGreatDoor
