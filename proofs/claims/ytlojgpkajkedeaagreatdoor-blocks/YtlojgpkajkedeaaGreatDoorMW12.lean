import Derived.Test.YtlojgpkajkedeaaGreatDoorMW10
import Derived.Test.YtlojgpkajkedeaaGreatDoorMW8
import Derived.Deep.OwnRows
namespace Go.Proofs.YtlojgpkajkedeaaGreatDoor
open Go.RowKit
theorem Tryz.zr7:(Tryz.prog.info? 9).map (fun i=>(i.zero,i.size,i.bytes))=some (some (.string ⟨#[]⟩),1,16):=by kernel_rfl
def zgz (m:Nat) (ss:List ByteArray) (j:Nat):List UInt8:=((dat ss)[j]?.getD []).drop m
def zf8 (m n:Nat) (ss:List ByteArray):List ByteArray:=(List.range n).map (fun j=>S.B (zgz m ss j))
theorem ze3 (m n:Nat) (ss:List ByteArray):(zf8 m n ss).length=n:=by simp[zf8]
theorem zjb (m n:Nat) (ss:List ByteArray) (i:Nat) (s:ByteArray) (h:(zf8 m n ss)[i]?=some s):i<n∧s=S.B (zgz m ss i):=by
 have hi:i<n:=by have:=(List.getElem?_eq_some_iff.1 h).1;rw[ze3] at this;exact this
 refine ⟨hi,?_⟩
 simp[zf8,hi] at h
 exact h.symm
theorem zug (m n:Nat) (ss:List ByteArray) (hn:n≤ss.length):dat (zf8 m n ss)=((dat ss).take n).map (fun l=>l.drop m):=by
 apply List.ext_getElem?
 intro i
 rw[zcu]
 by_cases hi:i<n
 ·simp only[zf8,List.getElem?_map,List.getElem?_range hi,Option.map_some,S.zcn,zgz]
  rw[List.getElem?_take_of_lt hi]
  have:i<(dat ss).length:=by rw[zai];omega
  rw[List.getElem?_eq_getElem this];rfl
 ·rw[List.getElem?_eq_none (by rw[ze3];omega),List.getElem?_eq_none (by simp;omega)];rfl
theorem zhv (m:Nat) (ss:List ByteArray) (j:Nat) (s:ByteArray) (h:ss[j]?=some s):(zgz m ss j)=s.data.toList.drop m:=by
 unfold zgz;rw[zcu,h];rfl
theorem zjd (m n:Nat) (ss:List ByteArray) (hn:n≤ss.length):tot (zf8 m n ss)≤tot ss:=by
 induction ss generalizing n with
 | nil=>simp at hn;subst hn;simp[zf8,tot]
 | cons s r ih=>cases n with
  | zero=>simp[zf8,tot]
  | succ n=>
   have h:=ih n (by simpa using hn)
   have e:zf8 m (n+1) (s::r)=S.B (s.data.toList.drop m)::zf8 m n r:=by
    simp only[zf8,List.range_succ_eq_map,List.map_cons,List.map_map]
    congr 1
   rw[e]
   simp only[tot,List.map_cons,List.sum_cons] at *
   rw[S.zbc,List.length_drop,S.length_data];omega
set_option maxHeartbeats 2000000 in
theorem zph (b o cap:Nat) (ss:List ByteArray) (kind number:Int) (m:Nat) (empty:Bool) (w:World) (hpos:0<ss.length) (hbw:b<w.heap.size) (hrow:RowS w b o ss) (hm:m≤1000000)
  (hne:¬ (empty=true∧((dat ss)[1]?.map S.blank)=some true)) :
  Calls Tryz.prog 180 #[.slice (some ⟨b,o,none⟩) ss.length cap,.agg #[.int .u8 kind,.int .i64 number,.int .i64 (m:Int),.bool empty]] w fun e w'=>
   ∃ N,e = .returned (.slice (some ⟨N,0,none⟩) (S.zay m (dat ss)) (S.zay m (dat ss)))∧RowS w' N 0 (zf8 m (S.zay m (dat ss)) ss)∧w.heap.size≤N∧N<w'.heap.size∧Below w.heap.size w w':=by
 have htot:=hrow.2
 have hlen:=hrow.len
 obtain ⟨n,hnn⟩:∃ n,S.zay m (dat ss)=n:=⟨_,rfl⟩
 have hn:=S.zdq m (dat ss) (by rw[zai];exact hpos)
 rw[hnn,zai] at hn
 have hCD:Hid (∀ wx,Row wx b o ss→Calls Tryz.prog 166 #[.slice (some ⟨b,o,none⟩) ss.length cap,.int .i64 (m:Int)] wx fun e w'=>e = .returned (.int .i64 (n:Nat))∧wx=w'):=hid (fun wx h=>by
  have:=zit b o cap ss m wx (by omega) h;rw[hnn] at this;exact this.mono (fun e w' h=>⟨h.1,h.2.symm⟩))
 rw[hnn]
 clear hnn
 have hmk:=run_make_row' (P:=Tryz.prog) 32 9 (.string ⟨#[]⟩) 16 Tryz.underlying32 Tryz.zr7 rfl .i64 .i64 n (by omega) (by omega)
 obtain ⟨WA,hWA⟩:∃ WA,WA=w.alloc (.cells #[.int .u8 kind,.int .i64 number,.int .i64 (m:Int),.bool empty] 186):=⟨_,rfl⟩
 have hsA:WA.heap.size=w.heap.size+1:=by rw[hWA];simp
 have hbA:Below w.heap.size w WA:=by rw[hWA];exact (Below.refl _ w).alloc (Nat.le_refl _) _
 have hxA:WA.heap[w.heap.size]?=some (.cells #[.int .u8 kind,.int .i64 number,.int .i64 (m:Int),.bool empty] 186):=by rw[hWA];exact za1 _ _
 have hrowA:=hid (hrow.below hbA hbw)
 have c2:=za0 hxA 2 _ rfl
 have c3:=za0 hxA 3 _ rfl
 have hWAH:=hid hWA
 have hxAH:=hid hxA
 have c3':∀ x,(w.alloc (.cells #[.int .u8 kind,.int .i64 number,.int .i64 (m:Int),.bool x] 186)).cell? ⟨w.heap.size,3,none⟩=some (.bool x):=fun x=>za0 (za1 _ _) 3 _ rfl
 have H:empty=false∨(empty=true∧¬ 1<ss.length)∨(empty=true∧∃ s1,ss[1]?=some s1∧S.blank s1.data.toList=false):=by
  cases hE:empty
  ·exact .inl rfl
  ·by_cases h1:1<ss.length
   ·refine .inr (.inr ⟨rfl,ss[1],List.getElem?_eq_getElem h1,?_⟩)
    cases hbl:S.blank ss[1].data.toList
    ·rfl
    ·exact absurd ⟨hE,by rw[zcu,List.getElem?_eq_getElem h1];simp[hbl]⟩ hne
   ·exact .inr (.inl ⟨rfl,h1⟩)
 clear hne hWA hxA c2 c3
 rcases H with rfl|⟨rfl,h1⟩|⟨rfl,s1,hs1,hbl⟩
 ·go_enter Tryz.func180,Tryz.ntmps180
  go_wp2_with fail
  rw[← hWAH.out]
  refine (hCD.out _ hrowA.out.row).mono ?_
  rintro e w' ⟨rfl,rfl⟩
  have hsAH:=hid hsA
  have hmade:=hid (World.rowIs_made WA (.string ⟨#[]⟩) n 9)
  have hbelA:=hid ((Below.refl (w.heap.size+1) WA).alloc (by omega) (.cells (madeCells #[.string ⟨#[]⟩] n) 9))
  go_wp2
  rw[hsAH.out] at hmade
  clear hsA hmk c3'
  go_loopw [6,28] (fun _ i wr=>∃ k:Nat,k≤n∧i = .int .i64 k∧wr.rowIs (w.heap.size+1) 9 n (fun j=>if j<k then .string (S.B (zgz m ss j)) else .string ⟨#[]⟩)∧Below (w.heap.size+1) WA wr) (fun _ i _=>n-(intOf i).toNat)
  case atStart=>exact ⟨0,Nat.zero_le _,rfl,hmade.out.congr (by intro j hj;simp),hbelA.out⟩
  case round=>
   obtain ⟨k,hk,rfl,hri,hbel⟩:=hrel
   have hriH:=hid hri
   have hbelH:=hid hbel
   have hx':=hbel.block w.heap.size (by omega)
   rw[hxAH.out] at hx'
   have q2:wr.cell? ⟨w.heap.size,2,none⟩=some (.int .i64 (m:Int)):=za0 hx' 2 _ rfl
   have hBw:w.heap.size+1<wr.heap.size:=hri.lt
   clear hx' hri hbel
   by_cases hlt:k<n
   ·obtain ⟨s,hs⟩:∃ s,ss[k]?=some s:=⟨ss[k],List.getElem?_eq_getElem (by omega)⟩
    have hcell:wr.cell? ⟨b,o+k,none⟩=some (.string s):=(hbelH.out.cell (p:=⟨b,o+k,none⟩) (by show b<_;omega)).trans (hrowA.out.1 k s hs)
    have hsm:s.size≤maxLen:=by have:=zdf _ _ s hs;unfold maxLen;omega
    have hla:=hid (zhv m ss k s hs)
    have hst:∃ v,wr.cell? ⟨w.heap.size+1,k,none⟩=some v:=⟨_,hriH.out.cell hlt⟩
    obtain ⟨v0,hst⟩:=hst
    have hfz:=hriH.out.frozen k
    have hneb:b≠w.heap.size+1:=by omega
    have hneb':w.heap.size+1≠b:=by omega
    have hI0:(0:Int)≤(k:Int):=by omega
    have hI1:(k:Int)<(n:Int):=by omega
    have hI2:(k:Int)<(ss.length:Int):=by omega
    have hCF:=hid (fun wx=>zfa s (m:Int) wx hsm (by omega) (by omega))
    clear hs
    go_wp2_with fail
    go_region_held3 (fun w'=>w'.cell? ⟨b,o+k,none⟩=some (.string s)∧w'.cell? ⟨w.heap.size,2,none⟩=some (.int .i64 (m:Int)))
     (first|go_keep|(refine ⟨?_,?_⟩ <;> (first|assumption|(simp[*];done))))
     ((go_at_call 167;refine (hCF.out _).mono ?_;rintro e w'' ⟨r,rfl,hr,hrl,rfl⟩))
    have hrB:Hid (Value.string r = .string (S.B (zgz m ss k))):=hid (by rw[hla.out,← S.zbq r,hr.out];rfl)
    go_wp2
    go_roundw
    case rel=>
     refine ⟨k+1,by omega,by go_num,?_,?_⟩
     ·refine (World.rowIs.drew ?_)
      refine (hriH.out.set k (.string r)).congr ?_
      intro j hj
      by_cases hjk:j=k
      ·subst hjk;simp only[if_true];rw[if_pos (by omega)];exact hrB.out
      ·rw[if_neg hjk]
       by_cases hj2:j<k
       ·rw[if_pos hj2,if_pos (by omega)]
       ·rw[if_neg hj2,if_neg (by omega)]
     ·exact (hbelH.out.setCell (by simp) _).drew
    case measure=>simp[intOf];omega
   ·have hkn:k=n:=by omega
    subst hkn
    go_wp2
    go_ret
    refine ⟨w.heap.size+1,rfl,⟨?_,Nat.le_trans (zjd m k ss hn) htot⟩,by omega,hBw,hbA.trans (hbelH.out.mono (by omega))⟩
    intro i s hi
    obtain ⟨hik,rfl⟩:=zjb m k ss i s hi
    have:=hriH.out.cell hik
    rw[if_pos hik] at this
    rw[Nat.zero_add];exact this
 ·go_enter Tryz.func180,Tryz.ntmps180
  go_wp2_with fail
  rw[← hWAH.out]
  refine (hCD.out _ hrowA.out.row).mono ?_
  rintro e w' ⟨rfl,rfl⟩
  have hsAH:=hid hsA
  have hmade:=hid (World.rowIs_made WA (.string ⟨#[]⟩) n 9)
  have hbelA:=hid ((Below.refl (w.heap.size+1) WA).alloc (by omega) (.cells (madeCells #[.string ⟨#[]⟩] n) 9))
  go_wp2
  rw[hsAH.out] at hmade
  clear hsA hmk c3'
  go_loopw [6,28] (fun _ i wr=>∃ k:Nat,k≤n∧i = .int .i64 k∧wr.rowIs (w.heap.size+1) 9 n (fun j=>if j<k then .string (S.B (zgz m ss j)) else .string ⟨#[]⟩)∧Below (w.heap.size+1) WA wr) (fun _ i _=>n-(intOf i).toNat)
  case atStart=>exact ⟨0,Nat.zero_le _,rfl,hmade.out.congr (by intro j hj;simp),hbelA.out⟩
  case round=>
   obtain ⟨k,hk,rfl,hri,hbel⟩:=hrel
   have hriH:=hid hri
   have hbelH:=hid hbel
   have hx':=hbel.block w.heap.size (by omega)
   rw[hxAH.out] at hx'
   have q2:wr.cell? ⟨w.heap.size,2,none⟩=some (.int .i64 (m:Int)):=za0 hx' 2 _ rfl
   have hBw:w.heap.size+1<wr.heap.size:=hri.lt
   clear hx' hri hbel
   by_cases hlt:k<n
   ·obtain ⟨s,hs⟩:∃ s,ss[k]?=some s:=⟨ss[k],List.getElem?_eq_getElem (by omega)⟩
    have hcell:wr.cell? ⟨b,o+k,none⟩=some (.string s):=(hbelH.out.cell (p:=⟨b,o+k,none⟩) (by show b<_;omega)).trans (hrowA.out.1 k s hs)
    have hsm:s.size≤maxLen:=by have:=zdf _ _ s hs;unfold maxLen;omega
    have hla:=hid (zhv m ss k s hs)
    have hst:∃ v,wr.cell? ⟨w.heap.size+1,k,none⟩=some v:=⟨_,hriH.out.cell hlt⟩
    obtain ⟨v0,hst⟩:=hst
    have hfz:=hriH.out.frozen k
    have hneb:b≠w.heap.size+1:=by omega
    have hneb':w.heap.size+1≠b:=by omega
    have hI0:(0:Int)≤(k:Int):=by omega
    have hI1:(k:Int)<(n:Int):=by omega
    have hI2:(k:Int)<(ss.length:Int):=by omega
    have hCF:=hid (fun wx=>zfa s (m:Int) wx hsm (by omega) (by omega))
    clear hs
    go_wp2_with fail
    go_region_held3 (fun w'=>w'.cell? ⟨b,o+k,none⟩=some (.string s)∧w'.cell? ⟨w.heap.size,2,none⟩=some (.int .i64 (m:Int)))
     (first|go_keep|(refine ⟨?_,?_⟩ <;> (first|assumption|(simp[*];done))))
     ((go_at_call 167;refine (hCF.out _).mono ?_;rintro e w'' ⟨r,rfl,hr,hrl,rfl⟩))
    have hrB:Hid (Value.string r = .string (S.B (zgz m ss k))):=hid (by rw[hla.out,← S.zbq r,hr.out];rfl)
    go_wp2
    go_roundw
    case rel=>
     refine ⟨k+1,by omega,by go_num,?_,?_⟩
     ·refine (World.rowIs.drew ?_)
      refine (hriH.out.set k (.string r)).congr ?_
      intro j hj
      by_cases hjk:j=k
      ·subst hjk;simp only[if_true];rw[if_pos (by omega)];exact hrB.out
      ·rw[if_neg hjk]
       by_cases hj2:j<k
       ·rw[if_pos hj2,if_pos (by omega)]
       ·rw[if_neg hj2,if_neg (by omega)]
     ·exact (hbelH.out.setCell (by simp) _).drew
    case measure=>simp[intOf];omega
   ·have hkn:k=n:=by omega
    subst hkn
    go_wp2
    go_ret
    refine ⟨w.heap.size+1,rfl,⟨?_,Nat.le_trans (zjd m k ss hn) htot⟩,by omega,hBw,hbA.trans (hbelH.out.mono (by omega))⟩
    intro i s hi
    obtain ⟨hik,rfl⟩:=zjb m k ss i s hi
    have:=hriH.out.cell hik
    rw[if_pos hik] at this
    rw[Nat.zero_add];exact this
 ·have hsm:s1.size≤maxLen:=by have:=zdf _ _ s1 hs1;unfold maxLen;omega
  have h1:1<ss.length:=(List.getElem?_eq_some_iff.1 hs1).1
  have hc1:=hrowA.out.1 1 s1 hs1
  rw[hWAH.out] at hc1
  clear hs1
  go_enter Tryz.func180,Tryz.ntmps180
  go_wp2_with (go_at_call 111;refine (zb9 _ _ hsm).mono ?_;rintro e w' ⟨rfl,rfl⟩)
  rw[← hWAH.out]
  refine (hCD.out _ hrowA.out.row).mono ?_
  rintro e w' ⟨rfl,rfl⟩
  have hsAH:=hid hsA
  have hmade:=hid (World.rowIs_made WA (.string ⟨#[]⟩) n 9)
  have hbelA:=hid ((Below.refl (w.heap.size+1) WA).alloc (by omega) (.cells (madeCells #[.string ⟨#[]⟩] n) 9))
  go_wp2
  rw[hsAH.out] at hmade
  clear hsA hmk c3'
  go_loopw [6,28] (fun _ i wr=>∃ k:Nat,k≤n∧i = .int .i64 k∧wr.rowIs (w.heap.size+1) 9 n (fun j=>if j<k then .string (S.B (zgz m ss j)) else .string ⟨#[]⟩)∧Below (w.heap.size+1) WA wr) (fun _ i _=>n-(intOf i).toNat)
  case atStart=>exact ⟨0,Nat.zero_le _,rfl,hmade.out.congr (by intro j hj;simp),hbelA.out⟩
  case round=>
   obtain ⟨k,hk,rfl,hri,hbel⟩:=hrel
   have hriH:=hid hri
   have hbelH:=hid hbel
   have hx':=hbel.block w.heap.size (by omega)
   rw[hxAH.out] at hx'
   have q2:wr.cell? ⟨w.heap.size,2,none⟩=some (.int .i64 (m:Int)):=za0 hx' 2 _ rfl
   have hBw:w.heap.size+1<wr.heap.size:=hri.lt
   clear hx' hri hbel
   by_cases hlt:k<n
   ·obtain ⟨s,hs⟩:∃ s,ss[k]?=some s:=⟨ss[k],List.getElem?_eq_getElem (by omega)⟩
    have hcell:wr.cell? ⟨b,o+k,none⟩=some (.string s):=(hbelH.out.cell (p:=⟨b,o+k,none⟩) (by show b<_;omega)).trans (hrowA.out.1 k s hs)
    have hsm:s.size≤maxLen:=by have:=zdf _ _ s hs;unfold maxLen;omega
    have hla:=hid (zhv m ss k s hs)
    have hst:∃ v,wr.cell? ⟨w.heap.size+1,k,none⟩=some v:=⟨_,hriH.out.cell hlt⟩
    obtain ⟨v0,hst⟩:=hst
    have hfz:=hriH.out.frozen k
    have hneb:b≠w.heap.size+1:=by omega
    have hneb':w.heap.size+1≠b:=by omega
    have hI0:(0:Int)≤(k:Int):=by omega
    have hI1:(k:Int)<(n:Int):=by omega
    have hI2:(k:Int)<(ss.length:Int):=by omega
    have hCF:=hid (fun wx=>zfa s (m:Int) wx hsm (by omega) (by omega))
    clear hs
    go_wp2_with fail
    go_region_held3 (fun w'=>w'.cell? ⟨b,o+k,none⟩=some (.string s)∧w'.cell? ⟨w.heap.size,2,none⟩=some (.int .i64 (m:Int)))
     (first|go_keep|(refine ⟨?_,?_⟩ <;> (first|assumption|(simp[*];done))))
     ((go_at_call 167;refine (hCF.out _).mono ?_;rintro e w'' ⟨r,rfl,hr,hrl,rfl⟩))
    have hrB:Hid (Value.string r = .string (S.B (zgz m ss k))):=hid (by rw[hla.out,← S.zbq r,hr.out];rfl)
    go_wp2
    go_roundw
    case rel=>
     refine ⟨k+1,by omega,by go_num,?_,?_⟩
     ·refine (World.rowIs.drew ?_)
      refine (hriH.out.set k (.string r)).congr ?_
      intro j hj
      by_cases hjk:j=k
      ·subst hjk;simp only[if_true];rw[if_pos (by omega)];exact hrB.out
      ·rw[if_neg hjk]
       by_cases hj2:j<k
       ·rw[if_pos hj2,if_pos (by omega)]
       ·rw[if_neg hj2,if_neg (by omega)]
     ·exact (hbelH.out.setCell (by simp) _).drew
    case measure=>simp[intOf];omega
   ·have hkn:k=n:=by omega
    subst hkn
    go_wp2
    go_ret
    refine ⟨w.heap.size+1,rfl,⟨?_,Nat.le_trans (zjd m k ss hn) htot⟩,by omega,hBw,hbA.trans (hbelH.out.mono (by omega))⟩
    intro i s hi
    obtain ⟨hik,rfl⟩:=zjb m k ss i s hi
    have:=hriH.out.cell hik
    rw[if_pos hik] at this
    rw[Nat.zero_add];exact this
set_option maxHeartbeats 1000000 in
theorem zo4 (b o cap:Nat) (ss:List ByteArray) (kind number:Int) (m:Nat) (s1:ByteArray) (w:World) (hbw:b<w.heap.size) (hrow:RowS w b o ss) (hs1:ss[1]?=some s1) (hbl:S.blank s1.data.toList=true) :
  Calls Tryz.prog 180 #[.slice (some ⟨b,o,none⟩) ss.length cap,.agg #[.int .u8 kind,.int .i64 number,.int .i64 (m:Int),.bool true]] w fun e w'=>
   ∃ N,e = .returned (.slice (some ⟨N,0,none⟩) 1 1)∧RowS w' N 0 [⟨#[]⟩]∧w.heap.size≤N∧N<w'.heap.size∧Below w.heap.size w w':=by
 have hlen:=hrow.len
 have hsm:s1.size≤maxLen:=by have:=zdf _ _ s1 hs1;have:=hrow.2;unfold maxLen;omega
 have h1:1<ss.length:=(List.getElem?_eq_some_iff.1 hs1).1
 have hc1:∀ ob,(w.alloc ob).cell? ⟨b,o+1,none⟩=some (.string s1):=fun ob=>by
  rw[((Below.refl w.heap.size w).alloc (Nat.le_refl _) ob).cell (p:=⟨b,o+1,none⟩) hbw];exact hrow.1 1 s1 hs1
 clear hs1
 go_enter Tryz.func180,Tryz.ntmps180
 go_wp2_with (go_at_call 111;refine (zb9 _ _ hsm).mono ?_;rintro e w' ⟨rfl,rfl⟩)
 go_ret
 have hsA:(w.alloc (.cells #[.int .u8 kind,.int .i64 number,.int .i64 (m:Int),.bool true] 186)).heap.size=w.heap.size+1:=by simp
 refine ⟨w.heap.size+1,rfl,⟨?_,by show (0:Nat)+1+0≤1000000;omega⟩,by omega,by simp,((Below.refl _ _).alloc (Nat.le_refl _) _).alloc (by simp) _⟩
 intro i s hi
 have hi0:i=0:=by have:=(List.getElem?_eq_some_iff.1 hi).1;simpa using this
 subst hi0
 simp at hi;subst hi
 rw[← hsA]
 exact za0 (za1 _ _) 0 _ rfl
theorem zqi (b o cap:Nat) (ss:List ByteArray) (kind:UInt8) (mk:S.Mark) (w:World) (hpos:0<ss.length) (hbw:b<w.heap.size) (hrow:RowS w b o ss) (hm:mk.zaa≤1000000) :
  Calls Tryz.prog 180 #[.slice (some ⟨b,o,none⟩) ss.length cap,.agg #[.int .u8 (kind.toNat:Int),.int .i64 mk.number,.int .i64 (mk.zaa:Int),.bool mk.empty]] w fun e w'=>
   ∃ N os,e = .returned (.slice (some ⟨N,0,none⟩) os.length os.length)∧RowS w' N 0 os∧Hid (dat os=S.zae mk (dat ss))∧0<os.length∧os.length≤ss.length∧w.heap.size≤N∧N<w'.heap.size∧Below w.heap.size w w':=by
 by_cases h:mk.empty=true∧((dat ss)[1]?.map S.blank)=some true
 ·obtain ⟨h1,h2⟩:=h
  rw[zcu] at h2
  cases hs:ss[1]? with
  | none=>rw[hs] at h2;simp at h2
  | some s1=>
   rw[hs] at h2;simp at h2
   rw[h1]
   refine (zo4 b o cap ss (kind.toNat:Int) mk.number mk.zaa s1 w hbw hrow hs h2).mono ?_
   rintro e w' ⟨N,rfl,hr,hN1,hN2,hb⟩
   refine ⟨N,[⟨#[]⟩],rfl,hr,hid ?_,by simp,hpos,hN1,hN2,hb⟩
   unfold S.zae;rw[if_pos ⟨h1,by rw[zcu,hs];simpa using h2⟩];rfl
 ·refine (zph b o cap ss (kind.toNat:Int) mk.number mk.zaa mk.empty w hpos hbw hrow hm h).mono ?_
  rintro e w' ⟨N,rfl,hr,hN1,hN2,hb⟩
  have hn:=S.zdq mk.zaa (dat ss) (by rw[zai];exact hpos)
  rw[zai] at hn
  have hp:=S.zdb mk.zaa (dat ss)
  refine ⟨N,zf8 mk.zaa (S.zay mk.zaa (dat ss)) ss,by rw[ze3],hr,hid ?_,by rw[ze3];omega,by rw[ze3];exact hn,hN1,hN2,hb⟩
  rw[zug _ _ _ hn];unfold S.zae;rw[if_neg h]
def zs7 (f:List UInt8→List UInt8) (ss:List ByteArray) (j:Nat):List UInt8:=f ((dat ss)[j]?.getD [])
def zgk (f:List UInt8→List UInt8) (ss:List ByteArray):List ByteArray:=(List.range ss.length).map (fun j=>S.B (zs7 f ss j))
theorem zg5 (f:List UInt8→List UInt8) (ss:List ByteArray):(zgk f ss).length=ss.length:=by simp[zgk]
theorem ztu (f:List UInt8→List UInt8) (ss:List ByteArray) (i:Nat) (s:ByteArray) (h:(zgk f ss)[i]?=some s):i<ss.length∧s=S.B (zs7 f ss i):=by
 have hi:i<ss.length:=by have:=(List.getElem?_eq_some_iff.1 h).1;rw[zg5] at this;exact this
 refine ⟨hi,?_⟩
 simp[zgk,hi] at h
 exact h.symm
theorem znd (f:List UInt8→List UInt8) (ss:List ByteArray):dat (zgk f ss)=(dat ss).map f:=by
 apply List.ext_getElem?
 intro i
 rw[zcu,List.getElem?_map]
 by_cases hi:i<ss.length
 ·have h2:i<(dat ss).length:=by rw[zai];exact hi
  simp only[zgk,List.getElem?_map,List.getElem?_range hi,Option.map_some,S.zcn,zs7]
  rw[List.getElem?_eq_getElem h2];rfl
 ·rw[List.getElem?_eq_none (by rw[zg5];omega),List.getElem?_eq_none (by rw[zai];omega)];rfl
theorem zxd (f:List UInt8→List UInt8) (ss:List ByteArray) (j:Nat) (s:ByteArray) (h:ss[j]?=some s):zs7 f ss j=f s.data.toList:=by
 unfold zs7;rw[zcu,h];rfl
def zeo (l:List UInt8):List UInt8:=l.drop (S.indent l)
theorem zf5 (rows:List (List UInt8)):S.zak rows=Lib.join (rows.map zeo) [10]:=by
 induction rows with
 | nil=>rfl
 | cons x r ih=>
  cases r with
  | nil=>simp[S.zak,Lib.join,List.intercalate,zeo]
  | cons y t=>
   have:S.zak (x::y::t)=zeo x++10::S.zak (y::t):=rfl
   rw[this,ih]
   simp[Lib.join,List.intercalate]
theorem join_le (ss:List ByteArray):(Lib.join ((dat ss).map zeo) [10]).length≤tot ss:=by
 rw[← zf5]
 induction ss with
 | nil=>simp[dat,S.zak]
 | cons x r ih=>
  cases r with
  | nil=>simp[dat,S.zak,tot,List.length_drop];rw[← S.length_data];simp;omega
  | cons y t=>
   have e:S.zak (dat (x::y::t))=zeo x.data.toList++10::S.zak (dat (y::t)):=rfl
   rw[e,List.length_append,List.length_cons]
   have:(zeo x.data.toList).length≤x.size:=by unfold zeo;rw[List.length_drop,S.length_data];omega
   simp only[tot,List.map_cons,List.sum_cons] at *
   omega
set_option maxHeartbeats 2000000 in
theorem znp (b o cap:Nat) (ss:List ByteArray) (w:World) (hbw:b<w.heap.size) (hrow:RowS w b o ss) :
  Calls Tryz.prog 183 #[.slice (some ⟨b,o,none⟩) ss.length cap] w fun e w'=>
   ∃ r:ByteArray,e = .returned (.string r)∧Hid (r.data.toList=Lib.trimRightB (S.zak (dat ss)) 32)∧Below w.heap.size w w':=by
 have htot:=hrow.2
 have hlen:=hrow.len
 obtain ⟨n,hnn⟩:∃ n,n=ss.length:=⟨_,rfl⟩
 have hmk:=run_make_row' (P:=Tryz.prog) 32 9 (.string ⟨#[]⟩) 16 Tryz.underlying32 Tryz.zr7 rfl .i64 .i64 n (by omega) (by omega)
 rw[← hnn] at hlen ⊢
 have hnH:=hid hnn
 have hmade:=hid (World.rowIs_made w (.string ⟨#[]⟩) n 9)
 have hbelA:=hid ((Below.refl w.heap.size w).alloc (Nat.le_refl _) (.cells (madeCells #[.string ⟨#[]⟩] n) 9))
 clear hnn
 go_enter Tryz.func183,Tryz.ntmps183
 go_wp2
 clear hmk
 go_loopw [4,5,11] (fun _ _ i wr=>∃ k:Nat,k≤n∧i = .int .i64 k∧wr.rowIs w.heap.size 9 n (fun j=>if j<k then .string (S.B (zs7 zeo ss j)) else .string ⟨#[]⟩)∧Below w.heap.size w wr) (fun _ _ i _=>n-(intOf i).toNat)
 case atStart=>exact ⟨0,Nat.zero_le _,rfl,hmade.out.congr (by intro j hj;simp),hbelA.out⟩
 case round=>
  obtain ⟨k,hk,rfl,hri,hbel⟩:=hrel
  have hriH:=hid hri
  have hbelH:=hid hbel
  have hBw:w.heap.size<wr.heap.size:=hri.lt
  clear hri hbel
  by_cases hlt:k<n
  ·obtain ⟨s,hs⟩:∃ s,ss[k]?=some s:=⟨ss[k]'(by have:=hnH.out;omega),List.getElem?_eq_getElem (by have:=hnH.out;omega)⟩
   have hcell:wr.cell? ⟨b,o+k,none⟩=some (.string s):=(hbelH.out.cell (p:=⟨b,o+k,none⟩) hbw).trans (hrow.1 k s hs)
   have hsm:s.size≤maxLen:=by have:=zdf _ _ s hs;unfold maxLen;omega
   have hla:=hid (zxd zeo ss k s hs)
   have hil:S.indent s.data.toList≤s.size:=by have:=S.zbt s.data.toList;rw[S.length_data] at this;exact this
   have hst:∃ v,wr.cell? ⟨w.heap.size,k,none⟩=some v:=⟨_,hriH.out.cell hlt⟩
   obtain ⟨v0,hst⟩:=hst
   have hfz:=hriH.out.frozen k
   obtain ⟨t,ht⟩:∃ t,S.indent s.data.toList=t:=⟨_,rfl⟩
   have hIO:Hid (∀ wx,Calls Tryz.prog 112 #[.string s] wx fun e w'=>e = .returned (.int .i64 (t:Nat))∧wx=w'):=hid (fun wx=>by
    have:=zb5 s wx hsm;rw[ht] at this;exact this.mono (fun e w' h=>⟨h.1,h.2.symm⟩))
   have hrB:Hid (Value.string (s.extract t s.size) = .string (S.B (zs7 zeo ss k))):=hid (by
    rw[hla.out,← S.zbq (s.extract t s.size),S.zbf,← ht];rfl)
   rw[ht] at hil
   clear hs ht
   go_wp2_with (go_at_call 112;refine (hIO.out _).mono ?_;rintro e w'' ⟨rfl,rfl⟩)
   go_roundw
   case rel=>
    refine ⟨k+1,by omega,by go_num,?_,?_⟩
    ·refine (hriH.out.set k (.string (s.extract t s.size))).congr ?_
     intro j hj
     by_cases hjk:j=k
     ·subst hjk;simp only[if_true];rw[if_pos (by omega)];exact hrB.out
     ·rw[if_neg hjk]
      by_cases hj2:j<k
      ·rw[if_pos hj2,if_pos (by omega)]
      ·rw[if_neg hj2,if_neg (by omega)]
    ·exact hbelH.out.setCell (Nat.le_refl _) _
   case measure=>simp[intOf];omega
  ·have hkn:k=n:=by omega
   subst hkn
   have hcs:∀ (j:Nat) x,(zgk zeo ss)[j]?=some x→wr.cell? ⟨w.heap.size,0+j,none⟩=some (.string x):=by
    intro j x hx
    obtain ⟨hj,rfl⟩:=ztu zeo ss j x hx
    have hjk:j<k:=by have:=hnH.out;omega
    have:=hriH.out.cell hjk
    rw[if_pos hjk] at this
    rw[Nat.zero_add];exact this
   have hml:(zgk zeo ss).length=k:=by rw[zg5];exact hnH.out.symm
   have hJ:=Tryz.strings_Join w.heap.size 0 k (zgk zeo ss) ⟨#[10]⟩ wr hcs hBw (by omega) (by omega) (by
    have:=join_le ss;rw[← znd] at this;exact Nat.le_trans this (by omega))
   rw[hml] at hJ
   have hJH:=hid hJ
   clear hJ hcs hml
   go_wp2_with fail
   refine hJH.out.mono ?_
   rintro e w1 ⟨rfl,hb1⟩
   have hbF:=hid (hbelH.out.trans (hb1.mono (Nat.le_of_lt hBw)))
   obtain ⟨J,hJ⟩:∃ J:List UInt8,J=Lib.join ((zgk zeo ss).map (·.data.toList)) (ByteArray.mk #[10]).data.toList:=⟨_,rfl⟩
   have hJ2:Hid (J=S.zak (dat ss)):=hid (by rw[hJ,zf5];show Lib.join (dat (zgk zeo ss)) [10]=_;rw[znd])
   have hJl:J.length≤1000000:=by rw[hJ2.out,zf5];exact Nat.le_trans (join_le ss) htot
   rw[← hJ]
   clear hb1 hJ
   go_wp2_with fail
   refine (zer _ 32 (by decide) _ (by rw[S.zgi];unfold maxLen;omega)).mono ?_
   rintro e w2 ⟨r,rfl,hr,hrl,rfl⟩
   go_wp2
   go_ret
   exact ⟨r,rfl,hid (by rw[hr.out,hJ2.out]),hbF.out⟩
end Go.Proofs.YtlojgpkajkedeaaGreatDoor
