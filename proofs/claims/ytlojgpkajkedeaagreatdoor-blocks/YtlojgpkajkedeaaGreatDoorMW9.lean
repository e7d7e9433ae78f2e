import Derived.Test.YtlojgpkajkedeaaGreatDoorMStr
import Derived.Test.YtlojgpkajkedeaaGreatDoorMW7
import Derived.Deep.RegionHeld3
import Derived.Deep.DeepCutAuto
namespace Go.Proofs.YtlojgpkajkedeaaGreatDoor
open Go.RowKit
def tot (ss:List ByteArray):Nat:=(ss.map (fun s=>s.size+1)).sum
theorem zif (ss:List ByteArray):ss.length≤tot ss:=by
 induction ss with
 | nil=>simp[tot]
 | cons s r ih=>simp only[tot,List.map_cons,List.sum_cons,List.length_cons] at *;omega
theorem zdf (ss:List ByteArray) (k:Nat) (s:ByteArray) (h:ss[k]?=some s):s.size<tot ss:=by
 induction ss generalizing k with
 | nil=>simp at h
 | cons x r ih=>
  simp only[tot,List.map_cons,List.sum_cons] at *
  cases k with
  | zero=>simp at h;subst h;omega
  | succ k=>have:=ih k (by simpa using h);omega
def RowS (w:World) (b o:Nat) (ss:List ByteArray):Prop:=(∀ i s,ss[i]?=some s→w.cell? ⟨b,o+i,none⟩=some (.string s))∧tot ss≤1000000
theorem RowS.row {w:World} {b o:Nat} {ss:List ByteArray} (h:RowS w b o ss):Row w b o ss:=by
 intro i s hi
 exact ⟨h.1 i s hi,by have:=zdf ss i s hi;have:=h.2;omega⟩
theorem RowS.len {w:World} {b o:Nat} {ss:List ByteArray} (h:RowS w b o ss):ss.length≤1000000:=Nat.le_trans (zif ss) h.2
theorem RowS.below {w w':World} {n b o:Nat} {ss:List ByteArray} (h:RowS w b o ss) (hb:Below n w w') (hn:b<n):RowS w' b o ss:=
 ⟨fun i s hi=>(hb.cell (p:=⟨b,o+i,none⟩) hn).trans (h.1 i s hi),h.2⟩
theorem zt2 (ss:List ByteArray) (k:Nat):tot (ss.drop k)≤tot ss:=by
 induction ss generalizing k with
 | nil=>simp[tot]
 | cons s r ih=>cases k with
  | zero=>simp
  | succ k=>have:=ih k;simp only[List.drop_succ_cons];simp only[tot,List.map_cons,List.sum_cons] at *;omega
theorem RowS.drop {w:World} {b o:Nat} {ss:List ByteArray} (h:RowS w b o ss) (k:Nat):RowS w b (o+k) (ss.drop k):=by
 refine ⟨fun i s hi=>?_,Nat.le_trans (zt2 ss k) h.2⟩
 rw[List.getElem?_drop] at hi
 have:=h.1 (k+i) s hi
 rw[Nat.add_assoc];exact this
def zdl (b:S.Blk) (kv:Value):Value:=.agg #[.int .i64 b.kind,.int .i64 b.line,.slice none 0 0,.int .i64 b.n,.string (S.B b.info),.string (S.B b.text),.bool b.loose,kv]
theorem zkw (ss:List ByteArray) (k:Nat):(S.zch ((dat ss).take k)).length≤tot ss:=by
 induction ss generalizing k with
 | nil=>simp[S.zch,dat,tot]
 | cons s r ih=>cases k with
  | zero=>simp[S.zch]
  | succ k=>
   have:=ih k
   simp only[S.zch,dat,tot,List.map_cons,List.take_succ_cons,List.flatten_cons,List.length_append,List.length_drop,List.sum_cons,List.length_singleton] at *
   rw[S.length_data];omega
theorem zis (ss:List ByteArray) (k:Nat) (s:ByteArray) (h:ss[k]?=some s):S.zch ((dat ss).take (k+1))=S.zch ((dat ss).take k)++(s.data.toList.drop 4++[10]):=by
 have hg:(dat ss)[k]?=some s.data.toList:=by rw[zcu,h];rfl
 rw[List.take_add_one,hg]
 simp[S.zch]
theorem zi7 (w:World):Lib.IsBuilderF 104 5 w.heap.size w.heap.size (Lib.byteCells []) (w.alloc (.cells #[.pointer none,.slice none 0 0] 104)):=by
 refine Lib.IsBuilderF.of (.inl ⟨Nat.le_refl _,.slice none 0 0,za1 _ _,World.ownsRow_nil _ _ _ _,?_⟩)
 simp[Value.ownBlock]
theorem zfd (l:List UInt8) (r:ByteArray) (x:List UInt8) (h:r.data.toList=x):(Lib.byteCells l++Lib.strCells r)++[.int .u8 10]=Lib.byteCells (l++(x++[10])):=by
 rw[Lib.strCells_eq,h,Lib.byteCells_append,Lib.byteCells_append,List.append_assoc];rfl
set_option maxHeartbeats 1000000 in
theorem zk1 (b o cap:Nat) (ss:List ByteArray) (w:World) (hpos:0<ss.length) (hcap:ss.length≤cap) (hbw:b<w.heap.size) (hrow:RowS w b o ss) :
  Calls Tryz.prog 113 #[.slice (some ⟨b,o,none⟩) ss.length cap] w fun e w'=>e = .returned (.tuple #[zdl (S.zbb (dat ss)).1 (.slice none 0 0),.int .i64 ((S.zbb (dat ss)).2:Nat)])∧Below w.heap.size w w':=by
 have hlen:=hrow.len
 have htot:=hrow.2
 have hn:=S.zdq 4 (dat ss) (by rw[zai];exact hpos)
 have hn1:=S.zdb 4 (dat ss)
 rw[zai] at hn
 obtain ⟨n,hnn⟩:∃ n,S.zay 4 (dat ss)=n:=⟨_,rfl⟩
 have hres:Hid (S.zbb (dat ss)=(.mk 3 0 [] (S.zch ((dat ss).take n)) false [],n)):=hid (by unfold S.zbb;rw[hnn])
 have hCD:Hid (∀ wx,Row wx b o ss→Calls Tryz.prog 166 #[.slice (some ⟨b,o,none⟩) ss.length cap,.int .i64 4] wx fun e w'=>e = .returned (.int .i64 (n:Nat))∧w'=wx):=hid (fun wx h=>by
  have:=zit b o cap ss 4 wx (by omega) h;rw[hnn] at this;exact this)
 rw[hnn] at hn hn1
 clear hnn
 go_enter Tryz.func113,Tryz.ntmps113
 go_wp2_with fail
 refine (hCD.out _ ((hrow.below ((Below.refl _ w).alloc (Nat.le_refl _) _) hbw).row)).mono ?_
 rintro e w' ⟨rfl,rfl⟩
 have hbA:Below w.heap.size w (w.alloc (.cells #[.int .i64 0,.int .i64 0,.slice none 0 0,.int .i64 0,.string ⟨#[]⟩,.string ⟨#[]⟩,.bool false,.slice none 0 0] 110)):=(Below.refl _ w).alloc (Nat.le_refl _) _
 have hrowA:=hrow.below hbA hbw
 have hsA:(w.alloc (.cells #[.int .i64 0,.int .i64 0,.slice none 0 0,.int .i64 0,.string ⟨#[]⟩,.string ⟨#[]⟩,.bool false,.slice none 0 0] 110)).heap.size=w.heap.size+1:=by simp
 have hresb:=za1 w (.cells #[.int .i64 0,.int .i64 0,.slice none 0 0,.int .i64 0,.string ⟨#[]⟩,.string ⟨#[]⟩,.bool false,.slice none 0 0] 110)
 have hfb:=zi7 (w.alloc (.cells #[.int .i64 0,.int .i64 0,.slice none 0 0,.int .i64 0,.string ⟨#[]⟩,.string ⟨#[]⟩,.bool false,.slice none 0 0] 110))
 rw[hsA] at hfb
 generalize hWA:w.alloc (.cells #[.int .i64 0,.int .i64 0,.slice none 0 0,.int .i64 0,.string ⟨#[]⟩,.string ⟨#[]⟩,.bool false,.slice none 0 0] 110)=WA at *
 have hWAH:=hid hWA
 clear hWA
 go_wp2
 have hfbH:=hid hfb
 have hresbH:=hid hresb
 have hrowH:=hid hrowA
 have hsAH:=hid hsA
 clear hfb hresb hrowA hsA hrow
 go_loopw [7,14] (fun _ i wr=>∃ k:Nat,k≤n∧i = .int .i64 k∧Lib.IsBuilderF 104 5 (w.heap.size+1) (w.heap.size+1) (Lib.byteCells (S.zch ((dat ss).take k))) wr∧Below (w.heap.size+1) WA wr) (fun _ i _=>n-(intOf i).toNat)
 case atStart=>
  refine ⟨0,Nat.zero_le _,rfl,?_,?_⟩
  ·simpa [S.zch] using hfbH.out
  ·exact (Below.refl _ _).alloc (by rw[hsAH.out];exact Nat.le_refl _) _
 case round=>
  obtain ⟨k,hk,rfl,hbld,hbel⟩:=hrel
  have hsz:=hbel.size
  have hsA':=hsAH.out
  have hBw:w.heap.size+1≤wr.heap.size:=by omega
  clear hsz hsA'
  by_cases hlt:k<n
  ·obtain ⟨s,hs⟩:∃ s,ss[k]?=some s:=⟨ss[k],List.getElem?_eq_getElem (by omega)⟩
   have hcell:wr.cell? ⟨b,o+k,none⟩=some (.string s):=(hbel.cell (p:=⟨b,o+k,none⟩) (by show b<_;omega)).trans (hrowH.out.1 k s hs)
   have hcap':(k:Int)<(n:Int):=by omega
   have hsm:s.size≤maxLen:=by have:=zdf ss k s hs;unfold maxLen;omega
   have hsn:=hid (zis ss k s hs)
   have hle2:=zkw ss (k+1)
   rw[hsn.out,List.length_append,List.length_append,List.length_drop,S.length_data] at hle2
   simp only[List.length_singleton] at hle2
   have hbldH:=hid hbld
   have hbelH:=hid hbel
   clear hs hbld hbel
   go_wp2_with fail
   refine (zfa s 4 _ hsm (by omega) (by omega)).mono ?_
   rintro e w1 ⟨r,rfl,hr,hrl,rfl⟩
   have hrs:r.size=s.size-4:=by rw[← S.length_data,hr.out,List.length_drop,S.length_data];rfl
   go_wp2_with fail
   refine (Tryz.zgd (w.heap.size+1) (w.heap.size+1) _ r _ hbldH.out (by rw[Lib.byteCells_length];omega) hBw).mono ?_
   rintro e w2 ⟨rfl,hat,hb2,_⟩
   have hBw2:w.heap.size+1≤w2.heap.size:=Nat.le_trans hBw hb2.size
   have hatH:=hid hat
   have hb2H:=hid hb2
   clear hat hb2
   go_wp2_with fail
   refine (Tryz.zjc (w.heap.size+1) (w.heap.size+1) _ 10 _ (.inr hatH.out) (by rw[List.length_append,Lib.byteCells_length,Lib.strCells_length];omega) hBw2).mono ?_
   rintro e w3 ⟨rfl,hat3,hb3,_⟩
   have hat3H:=hid hat3
   have hb3H:=hid hb3
   clear hat3 hb3
   go_wp2
   go_roundw
   case rel=>
    refine ⟨k+1,by omega,by go_num,?_,(hbelH.out.trans hb2H.out).trans hb3H.out⟩
    have:=hat3H.out
    rw[zfd _ r (s.data.toList.drop 4) hr.out,← hsn.out] at this
    exact .inr this
   case measure=>simp[intOf];omega
  ·have hkn:k=n:=by omega
   subst hkn
   have hbldH:=hid hbld
   have hbelH:=hid hbel
   clear hbld hbel
   go_wp2_with fail
   refine (Tryz.zrg (w.heap.size+1) (w.heap.size+1) _ _ hbldH.out hBw).mono ?_
   rintro e w4 ⟨rfl,_,hb4,_⟩
   have hb:=hbelH.out.trans hb4
   have hblk:=hb.block w.heap.size (by omega)
   rw[hresbH.out] at hblk
   have d0:=za0 hblk 0 _ rfl
   have d1:=za0 hblk 1 _ rfl
   have d2:=za0 hblk 2 _ rfl
   have d3:=za0 hblk 3 _ rfl
   have d4:=za0 hblk 4 _ rfl
   have d5:=za0 hblk 5 _ rfl
   have d6:=za0 hblk 6 _ rfl
   have d7:=za0 hblk 7 _ rfl
   have g0:=za7 hblk
   have hbH:=hid hb
   clear hblk hb hb4
   go_wp2
   refine bodyPost_ret (v:=.tuple #[.agg #[.int .i64 3,.int .i64 0,.slice none 0 0,.int .i64 0,.string ⟨#[]⟩,.string ⟨(S.zch ((dat ss).take k)).toArray⟩,.bool false,.slice none 0 0],.int .i64 (k:Int)]) (by simp[results,Tryz.results113,go_sem,d0,d1,d2,d3,d4,d5,d6,d7]) rfl ⟨?_,?_⟩
   ·rw[hres.out];rfl
   ·repeat (refine Below.setCell ?_ (by simp) _)
    exact hbA.trans (hbH.out.mono (by omega))
end Go.Proofs.YtlojgpkajkedeaaGreatDoor
