import Derived.Test.YtlojgpkajkedeaaGreatDoorNW10
import Derived.Test.YtlojgpkajkedeaaGreatDoorNW8
import Derived.Deep.OwnRows
set_option maxHeartbeats 16000000
set_option maxRecDepth 100000
namespace Go.Proofs.YtlojgpkajkedeaaGreatDoor
open Go.RowKit Go.Proofs.Tryz
theorem Tryz.zsj:(prog.info? 9).map (λi=>(i.zero,i.size,i.bytes))=some (some (.string ⟨#[]⟩),1,16):=by kernel_rfl
def zhc (m:Nat)(ss:List ByteArray)(j:Nat):List UInt8:=((dat ss)[j]?.getD []).drop m
def zfb (m n:Nat)(ss:List ByteArray):List ByteArray:=(List.range n).map (λj=>S.B (zhc m ss j))
theorem zdz (m n:Nat)(ss:List ByteArray):(zfb m n ss).length=n:=by simp[zfb]
theorem zjs (m n:Nat)(ss:List ByteArray)(i:Nat)(s:ByteArray)(h:(zfb m n ss)[i]?=some s):i<n/\s=S.B (zhc m ss i):=by
 have hi:i<n:=by have:=(Qb.1 h).1;rw[zdz] at this;exact this
 refine⟨hi,?_⟩;simp[zfb,hi] at h;exact h.symm
theorem zwh (m n:Nat)(ss:List ByteArray)(hn:n<=ss.length):dat (zfb m n ss)=((dat ss).take n).map (λl=>l.drop m):=by
 apply List.ext_getElem?
 intro i;rw[zd0];by_cases hi:i<n
 ·simp only[zfb,List.getElem?_map,List.getElem?_range hi,Option.map_some,S.zaz,zhc];rw[Qbe hi];have:i<(dat ss).length:=by rw[zai];omega
  rw[Qg this];rfl
 ·rw[Qr (by rw[zdz];omega),Qr (by simp;omega)];rfl
theorem zij (m:Nat)(ss:List ByteArray)(j:Nat)(s:ByteArray)(h:ss[j]?=some s):(zhc m ss j)=s.data.toList.drop m:=by
 unfold zhc;rw[zd0,h];rfl
theorem zkb (m n:Nat)(ss:List ByteArray)(hn:n<=ss.length):tot (zfb m n ss)<=tot ss:=by
 induction ss generalizing n with
 | nil=>simp at hn;subst hn;simp[zfb,tot]
 | cons s r ih=>cases n with
  | zero=>simp[zfb,tot]
  | succ n=>
   have h:=ih n (by simpa using hn);have e:zfb m (n+1) (s::r)=S.B (s.data.toList.drop m)::zfb m n r:=by
    simp only[zfb,List.range_succ_eq_map,Qs,List.map_map];congr 1
   rw[e];simp only[tot,Qs,List.sum_cons] at *;rw[S.zav,Qf,S.lda];omega
theorem zr9 (b o cap:Nat)(ss:List ByteArray)(kind number:Int)(m:Nat)(empty:Bool)(w:World)(hpos:0<ss.length)(hbw:b<w.heap.size)(hrow:RowS w b o ss)(hm:m<=1000000)
  (hne:¬(empty=true/\((dat ss)[1]?.map S.blank)=some true)) :
  Calls prog 180 #[.slice (some ⟨b,o,none⟩) ss.length cap,.agg #[.int .u8 kind,.int .i64 number,.int .i64 (m:Int),.bool empty]] w λe w'=>
   ∃N,e=.returned (.slice (some ⟨N,0,none⟩) (S.zax m (dat ss)) (S.zax m (dat ss)))/\RowS w' N 0 (zfb m (S.zax m (dat ss)) ss)/\w.heap.size<=N/\N<w'.heap.size/\Below w.heap.size w w':=by
 have htot:=hrow.2;have hlen:=hrow.len;obtain⟨n,hnn⟩:=Qyy (S.zax m (dat ss));have hn:=S.zdx m (dat ss) (by rw[zai];exact hpos);rw[hnn,zai] at hn;have jy:Hid (∀wx,Row wx b o ss->Calls prog 166 #[.slice (some ⟨b,o,none⟩) ss.length cap,.int .i64 (m:Int)] wx λe w'=>e=.returned (.int .i64 (n:Nat))/\wx=w'):=hid (λwx h=>by
  have:=zil b o cap ss m wx (by omega) h;rw[hnn] at this;exact this.mono (λe w' h=>⟨h.1,h.2.symm⟩))
 rw[hnn];clear hnn;have hmk:=run_make_row' (P:=prog) 32 9 (.string ⟨#[]⟩) 16 underlying32 Tryz.zsj rfl .i64 .i64 n (by omega) (by omega);obtain⟨WA,jl⟩:=Qzz (w.alloc (.cells #[.int .u8 kind,.int .i64 number,.int .i64 (m:Int),.bool empty] 186));have hsA:WA.heap.size=w.heap.size+1:=by rw[jl];simp
 have jw:Below w.heap.size w WA:=by rw[jl];exact(Below.refl _ w).alloc (Qc _) _
 have jq:WA.heap[w.heap.size]?=some (.cells #[.int .u8 kind,.int .i64 number,.int .i64 (m:Int),.bool empty] 186):=by rw[jl];exact za1 _ _
 have dx:=hid (hrow.below jw hbw);have c2:=za0 jq 2 _ rfl;have c3:=za0 jq 3 _ rfl;have jd:=hid jl;have jh:=hid jq;have c3':∀x,(w.alloc (.cells #[.int .u8 kind,.int .i64 number,.int .i64 (m:Int),.bool x] 186)).cell? ⟨w.heap.size,3,none⟩=some (.bool x):=λx=>za0 (za1 _ _) 3 _ rfl;have H:empty=false\/(empty=true/\¬1<ss.length)\/(empty=true/\∃s1,ss[1]?=some s1/\S.blank s1.data.toList=false):=by
  cases hE:empty
  ·exact .inl rfl
  ·by_cases h1:1<ss.length
   ·refine .inr (.inr ⟨rfl,ss[1],Qg h1,?_⟩);cases hbl:S.blank ss[1].data.toList
    ·rfl
    ·exact absurd ⟨hE,by rw[zd0,Qg h1];simp[hbl]⟩ hne
   ·exact .inr (.inl ⟨rfl,h1⟩)
 clear hne jl jq c2 c3;rcases H with rfl|⟨rfl,h1⟩|⟨rfl,s1,hs1,hbl⟩
 ·go_enter func180,ntmps180;go_wp2_with fail
  rw[<-jd.out];refine(jy.out _ dx.out.row).mono ?_;rintro e w'⟨rfl,rfl⟩;have gq:=hid hsA;have dw:=hid (World.rowIs_made WA (.string ⟨#[]⟩) n 9);have fq:=hid ((Below.refl (w.heap.size+1) WA).alloc (by omega) (.cells (madeCells #[.string ⟨#[]⟩] n) 9));go_wp2;rw[gq.out] at dw;clear hsA hmk c3';go_loopw [6,28] (λ_ i wr=>∃k:Nat,k<=n/\i=.int .i64 k/\wr.rowIs (w.heap.size+1) 9 n (λj=>if j<k then .string (S.B (zhc m ss j)) else .string ⟨#[]⟩)/\Below (w.heap.size+1) WA wr) (λ_ i _=>n-(intOf i).toNat)
  case atStart=>exact⟨0,Qt _,rfl,dw.out.congr (by intro j hj;simp),fq.out⟩
  case round=>
   obtain⟨k,hk,rfl,gy,hbel⟩:=hrel;have dh:=hid gy;have bg:=hid hbel;have hx':=hbel.block w.heap.size (by omega);rw[jh.out] at hx';have q2:wr.cell? ⟨w.heap.size,2,none⟩=some (.int .i64 (m:Int)):=za0 hx' 2 _ rfl;have hBw:w.heap.size+1<wr.heap.size:=gy.lt;clear hx' gy hbel;by_cases hlt:k<n
   ·obtain⟨s,hs⟩:∃s,ss[k]?=some s:=⟨ss[k],Qg (by omega)⟩;have hcell:wr.cell? ⟨b,o+k,none⟩=some (.string s):=(bg.out.cell (p:=⟨b,o+k,none⟩) (by show b<_;omega)).trans (dx.out.1 k s hs);have hsm:s.size<=maxLen:=(by have:=zdg _ _ s hs;unfold maxLen;omega);have hla:=hid (zij m ss k s hs);have hst:∃v,wr.cell? ⟨w.heap.size+1,k,none⟩=some v:=⟨_,dh.out.cell hlt⟩;obtain⟨v0,hst⟩:=hst;have hfz:=dh.out.frozen k;have hneb:b≠w.heap.size+1:=(by omega);have jg:w.heap.size+1≠b:=(by omega);have hI0:(0:Int)<=(k:Int):=(by omega);have hI1:(k:Int)<(n:Int):=(by omega);have hI2:(k:Int)<(ss.length:Int):=(by omega);have jm:=hid (λwx=>zfa s (m:Int) wx hsm (by omega) (by omega));clear hs;go_wp2_with (fail);go_region_held3 (λw'=>w'.cell? ⟨b,o+k,none⟩=some (.string s)/\w'.cell? ⟨w.heap.size,2,none⟩=some (.int .i64 (m:Int)))
     (first|go_keep|(refine⟨?_,?_⟩<;>(first|assumption|(simp[*];done))))
     ((go_at_call 167;refine(jm.out _).mono ?_;rintro e w''⟨r,rfl,hr,hrl,rfl⟩))
    have jk:Hid (Value.string r=.string (S.B (zhc m ss k))):=hid (by rw[hla.out,<-S.zbp r,hr.out];rfl);go_wp2;go_roundw
    case rel=>
     refine⟨k+1,by omega,by go_num,?_,?_⟩
     ·refine(World.rowIs.drew ?_);refine(dh.out.set k (.string r)).congr ?_;intro j hj;by_cases hjk:j=k
      ·subst hjk;simp only[if_true];rw[if_pos (by omega)];exact jk.out
      ·rw[if_neg hjk];by_cases hj2:j<k
       ·rw[if_pos hj2,if_pos (by omega)]
       ·rw[if_neg hj2,if_neg (by omega)]
     ·exact(bg.out.setCell (by simp) _).drew
    case measure=>simp[intOf];omega
   ·have hkn:k=n:=(by omega);subst hkn;go_wp2;go_ret;refine⟨w.heap.size+1,rfl,⟨?_,Qj (zkb m k ss hn) htot⟩,by omega,hBw,jw.trans (bg.out.mono (by omega))⟩;intro i s hi;obtain⟨hik,rfl⟩:=zjs m k ss i s hi;have:=dh.out.cell hik;rw[if_pos hik] at this;rw[Nat.zero_add];exact this
 ·go_enter func180,ntmps180;go_wp2_with fail
  rw[<-jd.out];refine(jy.out _ dx.out.row).mono ?_;rintro e w'⟨rfl,rfl⟩;have gq:=hid hsA;have dw:=hid (World.rowIs_made WA (.string ⟨#[]⟩) n 9);have fq:=hid ((Below.refl (w.heap.size+1) WA).alloc (by omega) (.cells (madeCells #[.string ⟨#[]⟩] n) 9));go_wp2;rw[gq.out] at dw;clear hsA hmk c3';go_loopw [6,28] (λ_ i wr=>∃k:Nat,k<=n/\i=.int .i64 k/\wr.rowIs (w.heap.size+1) 9 n (λj=>if j<k then .string (S.B (zhc m ss j)) else .string ⟨#[]⟩)/\Below (w.heap.size+1) WA wr) (λ_ i _=>n-(intOf i).toNat)
  case atStart=>exact⟨0,Qt _,rfl,dw.out.congr (by intro j hj;simp),fq.out⟩
  case round=>
   obtain⟨k,hk,rfl,gy,hbel⟩:=hrel;have dh:=hid gy;have bg:=hid hbel;have hx':=hbel.block w.heap.size (by omega);rw[jh.out] at hx';have q2:wr.cell? ⟨w.heap.size,2,none⟩=some (.int .i64 (m:Int)):=za0 hx' 2 _ rfl;have hBw:w.heap.size+1<wr.heap.size:=gy.lt;clear hx' gy hbel;by_cases hlt:k<n
   ·obtain⟨s,hs⟩:∃s,ss[k]?=some s:=⟨ss[k],Qg (by omega)⟩;have hcell:wr.cell? ⟨b,o+k,none⟩=some (.string s):=(bg.out.cell (p:=⟨b,o+k,none⟩) (by show b<_;omega)).trans (dx.out.1 k s hs);have hsm:s.size<=maxLen:=(by have:=zdg _ _ s hs;unfold maxLen;omega);have hla:=hid (zij m ss k s hs);have hst:∃v,wr.cell? ⟨w.heap.size+1,k,none⟩=some v:=⟨_,dh.out.cell hlt⟩;obtain⟨v0,hst⟩:=hst;have hfz:=dh.out.frozen k;have hneb:b≠w.heap.size+1:=(by omega);have jg:w.heap.size+1≠b:=(by omega);have hI0:(0:Int)<=(k:Int):=(by omega);have hI1:(k:Int)<(n:Int):=(by omega);have hI2:(k:Int)<(ss.length:Int):=(by omega);have jm:=hid (λwx=>zfa s (m:Int) wx hsm (by omega) (by omega));clear hs;go_wp2_with (fail);go_region_held3 (λw'=>w'.cell? ⟨b,o+k,none⟩=some (.string s)/\w'.cell? ⟨w.heap.size,2,none⟩=some (.int .i64 (m:Int)))
     (first|go_keep|(refine⟨?_,?_⟩<;>(first|assumption|(simp[*];done))))
     ((go_at_call 167;refine(jm.out _).mono ?_;rintro e w''⟨r,rfl,hr,hrl,rfl⟩))
    have jk:Hid (Value.string r=.string (S.B (zhc m ss k))):=hid (by rw[hla.out,<-S.zbp r,hr.out];rfl);go_wp2;go_roundw
    case rel=>
     refine⟨k+1,by omega,by go_num,?_,?_⟩
     ·refine(World.rowIs.drew ?_);refine(dh.out.set k (.string r)).congr ?_;intro j hj;by_cases hjk:j=k
      ·subst hjk;simp only[if_true];rw[if_pos (by omega)];exact jk.out
      ·rw[if_neg hjk];by_cases hj2:j<k
       ·rw[if_pos hj2,if_pos (by omega)]
       ·rw[if_neg hj2,if_neg (by omega)]
     ·exact(bg.out.setCell (by simp) _).drew
    case measure=>simp[intOf];omega
   ·have hkn:k=n:=(by omega);subst hkn;go_wp2;go_ret;refine⟨w.heap.size+1,rfl,⟨?_,Qj (zkb m k ss hn) htot⟩,by omega,hBw,jw.trans (bg.out.mono (by omega))⟩;intro i s hi;obtain⟨hik,rfl⟩:=zjs m k ss i s hi;have:=dh.out.cell hik;rw[if_pos hik] at this;rw[Nat.zero_add];exact this
 ·have hsm:s1.size<=maxLen:=by have:=zdg _ _ s1 hs1;unfold maxLen;omega
  have h1:1<ss.length:=(Qb.1 hs1).1;have hc1:=dx.out.1 1 s1 hs1;rw[jd.out] at hc1;clear hs1;go_enter func180,ntmps180;go_wp2_with (go_at_call 111;refine(zbc _ _ hsm).mono ?_;rintro e w'⟨rfl,rfl⟩)
  rw[<-jd.out];refine(jy.out _ dx.out.row).mono ?_;rintro e w'⟨rfl,rfl⟩;have gq:=hid hsA;have dw:=hid (World.rowIs_made WA (.string ⟨#[]⟩) n 9);have fq:=hid ((Below.refl (w.heap.size+1) WA).alloc (by omega) (.cells (madeCells #[.string ⟨#[]⟩] n) 9));go_wp2;rw[gq.out] at dw;clear hsA hmk c3';go_loopw [6,28] (λ_ i wr=>∃k:Nat,k<=n/\i=.int .i64 k/\wr.rowIs (w.heap.size+1) 9 n (λj=>if j<k then .string (S.B (zhc m ss j)) else .string ⟨#[]⟩)/\Below (w.heap.size+1) WA wr) (λ_ i _=>n-(intOf i).toNat)
  case atStart=>exact⟨0,Qt _,rfl,dw.out.congr (by intro j hj;simp),fq.out⟩
  case round=>
   obtain⟨k,hk,rfl,gy,hbel⟩:=hrel;have dh:=hid gy;have bg:=hid hbel;have hx':=hbel.block w.heap.size (by omega);rw[jh.out] at hx';have q2:wr.cell? ⟨w.heap.size,2,none⟩=some (.int .i64 (m:Int)):=za0 hx' 2 _ rfl;have hBw:w.heap.size+1<wr.heap.size:=gy.lt;clear hx' gy hbel;by_cases hlt:k<n
   ·obtain⟨s,hs⟩:∃s,ss[k]?=some s:=⟨ss[k],Qg (by omega)⟩;have hcell:wr.cell? ⟨b,o+k,none⟩=some (.string s):=(bg.out.cell (p:=⟨b,o+k,none⟩) (by show b<_;omega)).trans (dx.out.1 k s hs);have hsm:s.size<=maxLen:=(by have:=zdg _ _ s hs;unfold maxLen;omega);have hla:=hid (zij m ss k s hs);have hst:∃v,wr.cell? ⟨w.heap.size+1,k,none⟩=some v:=⟨_,dh.out.cell hlt⟩;obtain⟨v0,hst⟩:=hst;have hfz:=dh.out.frozen k;have hneb:b≠w.heap.size+1:=(by omega);have jg:w.heap.size+1≠b:=(by omega);have hI0:(0:Int)<=(k:Int):=(by omega);have hI1:(k:Int)<(n:Int):=(by omega);have hI2:(k:Int)<(ss.length:Int):=(by omega);have jm:=hid (λwx=>zfa s (m:Int) wx hsm (by omega) (by omega));clear hs;go_wp2_with (fail);go_region_held3 (λw'=>w'.cell? ⟨b,o+k,none⟩=some (.string s)/\w'.cell? ⟨w.heap.size,2,none⟩=some (.int .i64 (m:Int)))
     (first|go_keep|(refine⟨?_,?_⟩<;>(first|assumption|(simp[*];done))))
     ((go_at_call 167;refine(jm.out _).mono ?_;rintro e w''⟨r,rfl,hr,hrl,rfl⟩))
    have jk:Hid (Value.string r=.string (S.B (zhc m ss k))):=hid (by rw[hla.out,<-S.zbp r,hr.out];rfl);go_wp2;go_roundw
    case rel=>
     refine⟨k+1,by omega,by go_num,?_,?_⟩
     ·refine(World.rowIs.drew ?_);refine(dh.out.set k (.string r)).congr ?_;intro j hj;by_cases hjk:j=k
      ·subst hjk;simp only[if_true];rw[if_pos (by omega)];exact jk.out
      ·rw[if_neg hjk];by_cases hj2:j<k
       ·rw[if_pos hj2,if_pos (by omega)]
       ·rw[if_neg hj2,if_neg (by omega)]
     ·exact(bg.out.setCell (by simp) _).drew
    case measure=>simp[intOf];omega
   ·have hkn:k=n:=(by omega);subst hkn;go_wp2;go_ret;refine⟨w.heap.size+1,rfl,⟨?_,Qj (zkb m k ss hn) htot⟩,by omega,hBw,jw.trans (bg.out.mono (by omega))⟩;intro i s hi;obtain⟨hik,rfl⟩:=zjs m k ss i s hi;have:=dh.out.cell hik;rw[if_pos hik] at this;rw[Nat.zero_add];exact this
theorem zpm (b o cap:Nat)(ss:List ByteArray)(kind number:Int)(m:Nat)(s1:ByteArray)(w:World)(hbw:b<w.heap.size)(hrow:RowS w b o ss)(hs1:ss[1]?=some s1)(hbl:S.blank s1.data.toList=true):Calls prog 180 #[.slice (some ⟨b,o,none⟩) ss.length cap,.agg #[.int .u8 kind,.int .i64 number,.int .i64 (m:Int),.bool true]] w λe w'=>
   ∃N,e=.returned (.slice (some ⟨N,0,none⟩) 1 1)/\RowS w' N 0 [⟨#[]⟩]/\w.heap.size<=N/\N<w'.heap.size/\Below w.heap.size w w':=by
 have hlen:=hrow.len;have hsm:s1.size<=maxLen:=by have:=zdg _ _ s1 hs1;have:=hrow.2;unfold maxLen;omega
 have h1:1<ss.length:=(Qb.1 hs1).1;have hc1:∀ob,(w.alloc ob).cell? ⟨b,o+1,none⟩=some (.string s1):=λob=>by
  rw[((Below.refl w.heap.size w).alloc (Qc _) ob).cell (p:=⟨b,o+1,none⟩) hbw];exact hrow.1 1 s1 hs1
 clear hs1;go_enter func180,ntmps180;go_wp2_with (go_at_call 111;refine(zbc _ _ hsm).mono ?_;rintro e w'⟨rfl,rfl⟩)
 go_ret;have hsA:(w.alloc (.cells #[.int .u8 kind,.int .i64 number,.int .i64 (m:Int),.bool true] 186)).heap.size=w.heap.size+1:=by simp
 refine⟨w.heap.size+1,rfl,⟨?_,by show (0:Nat)+1+0<=1000000;omega⟩,by omega,by simp,((Below.refl _ _).alloc (Qc _) _).alloc (by simp) _⟩;intro i s hi;have hi0:i=0:=by have:=(Qb.1 hi).1;simpa using this
 subst hi0;simp at hi;subst hi;rw[<-hsA];exact za0 (za1 _ _) 0 _ rfl
theorem zsw (b o cap:Nat)(ss:List ByteArray)(kind:UInt8)(mk:S.Mark)(w:World)(hpos:0<ss.length)(hbw:b<w.heap.size)(hrow:RowS w b o ss)(hm:mk.zaa<=1000000):Calls prog 180 #[.slice (some ⟨b,o,none⟩) ss.length cap,.agg #[.int .u8 (kind.toNat:Int),.int .i64 mk.number,.int .i64 (mk.zaa:Int),.bool mk.empty]] w λe w'=>
   ∃N os,e=.returned (.slice (some ⟨N,0,none⟩) os.length os.length)/\RowS w' N 0 os/\Hid (dat os=S.zah mk (dat ss))/\0<os.length/\os.length<=ss.length/\w.heap.size<=N/\N<w'.heap.size/\Below w.heap.size w w':=by
 by_cases h:mk.empty=true/\((dat ss)[1]?.map S.blank)=some true
 ·obtain⟨h1,h2⟩:=h;rw[zd0] at h2;cases hs:ss[1]? with
  | none=>rw[hs] at h2;simp at h2
  | some s1=>
   rw[hs] at h2;simp at h2;rw[h1];refine(zpm b o cap ss (kind.toNat:Int) mk.number mk.zaa s1 w hbw hrow hs h2).mono ?_;rintro e w'⟨N,rfl,hr,hN1,bg,hb⟩;refine⟨N,[⟨#[]⟩],rfl,hr,hid ?_,by simp,hpos,hN1,bg,hb⟩;unfold S.zah;rw[if_pos ⟨h1,by rw[zd0,hs];simpa using h2⟩];rfl
 ·refine(zr9 b o cap ss (kind.toNat:Int) mk.number mk.zaa mk.empty w hpos hbw hrow hm h).mono ?_;rintro e w'⟨N,rfl,hr,hN1,bg,hb⟩;have hn:=S.zdx mk.zaa (dat ss) (by rw[zai];exact hpos);rw[zai] at hn;have hp:=S.zde mk.zaa (dat ss);refine⟨N,zfb mk.zaa (S.zax mk.zaa (dat ss)) ss,by rw[zdz],hr,hid ?_,by rw[zdz];omega,by rw[zdz];exact hn,hN1,bg,hb⟩;rw[zwh _ _ _ hn];unfold S.zah;rw[if_neg h]
def zth (f:List UInt8->List UInt8)(ss:List ByteArray)(j:Nat):List UInt8:=f ((dat ss)[j]?.getD [])
def zh5 (f:List UInt8->List UInt8)(ss:List ByteArray):List ByteArray:=(List.range ss.length).map (λj=>S.B (zth f ss j))
theorem zgh (f:List UInt8->List UInt8)(ss:List ByteArray):(zh5 f ss).length=ss.length:=by simp[zh5]
theorem zvl (f:List UInt8->List UInt8)(ss:List ByteArray)(i:Nat)(s:ByteArray)(h:(zh5 f ss)[i]?=some s):i<ss.length/\s=S.B (zth f ss i):=by
 have hi:i<ss.length:=by have:=(Qb.1 h).1;rw[zgh] at this;exact this
 refine⟨hi,?_⟩;simp[zh5,hi] at h;exact h.symm
theorem zo0 (f:List UInt8->List UInt8)(ss:List ByteArray):dat (zh5 f ss)=(dat ss).map f:=by
 apply List.ext_getElem?
 intro i;rw[zd0,List.getElem?_map];by_cases hi:i<ss.length
 ·have h2:i<(dat ss).length:=by rw[zai];exact hi
  simp only[zh5,List.getElem?_map,List.getElem?_range hi,Option.map_some,S.zaz,zth];rw[Qg h2];rfl
 ·rw[Qr (by rw[zgh];omega),Qr (by rw[zai];omega)];rfl
theorem z0f (f:List UInt8->List UInt8)(ss:List ByteArray)(j:Nat)(s:ByteArray)(h:ss[j]?=some s):zth f ss j=f s.data.toList:=by
 unfold zth;rw[zd0,h];rfl
def zer (l:List UInt8):List UInt8:=l.drop (S.indent l)
theorem zfe (rows:List (List UInt8)):S.zaj rows=Lib.join (rows.map zer) [10]:=by
 induction rows with
 | nil=>rfl
 | cons x r ih=>
  cases r with
  | nil=>simp[S.zaj,Lib.join,List.intercalate,zer]
  | cons y t=>
   have:S.zaj (x::y::t)=zer x++10::S.zaj (y::t):=rfl;rw[this,ih];simp[Lib.join,List.intercalate]
theorem join_le (ss:List ByteArray):(Lib.join ((dat ss).map zer) [10]).length<=tot ss:=by
 rw[<-zfe];induction ss with
 | nil=>simp[dat,S.zaj]
 | cons x r ih=>
  cases r with
  | nil=>simp[dat,S.zaj,tot,List.length_drop];rw[<-S.lda];simp;omega
  | cons y t=>
   have e:S.zaj (dat (x::y::t))=zer x.data.toList++10::S.zaj (dat (y::t)):=rfl;rw[e,Qa,Qd];have:(zer x.data.toList).length<=x.size:=by unfold zer;rw[Qf,S.lda];omega
   simp only[tot,Qs,List.sum_cons] at *;omega
theorem zpf (b o cap:Nat)(ss:List ByteArray)(w:World)(hbw:b<w.heap.size)(hrow:RowS w b o ss):Calls prog 183 #[.slice (some ⟨b,o,none⟩) ss.length cap] w λe w'=>
   ∃r:ByteArray,e=.returned (.string r)/\Hid (r.data.toList=Lib.trimRightB (S.zaj (dat ss)) 32)/\Below w.heap.size w w':=by
 have htot:=hrow.2;have hlen:=hrow.len;obtain⟨n,hnn⟩:=Qzz (ss.length);have hmk:=run_make_row' (P:=prog) 32 9 (.string ⟨#[]⟩) 16 underlying32 Tryz.zsj rfl .i64 .i64 n (by omega) (by omega);rw[<-hnn] at hlen ⊢;have fq:=hid hnn;have dw:=hid (World.rowIs_made w (.string ⟨#[]⟩) n 9);have dx:=hid ((Below.refl w.heap.size w).alloc (Qc _) (.cells (madeCells #[.string ⟨#[]⟩] n) 9));clear hnn;go_enter func183,ntmps183;go_wp2;clear hmk;go_loopw [4,5,11] (λ_ _ i wr=>∃k:Nat,k<=n/\i=.int .i64 k/\wr.rowIs w.heap.size 9 n (λj=>if j<k then .string (S.B (zth zer ss j)) else .string ⟨#[]⟩)/\Below w.heap.size w wr) (λ_ _ i _=>n-(intOf i).toNat)
 case atStart=>exact⟨0,Qt _,rfl,dw.out.congr (by intro j hj;simp),dx.out⟩
 case round=>
  obtain⟨k,hk,rfl,gq,hbel⟩:=hrel;have dh:=hid gq;have bg:=hid hbel;have hBw:w.heap.size<wr.heap.size:=gq.lt;clear gq hbel;by_cases hlt:k<n
  ·obtain⟨s,hs⟩:∃s,ss[k]?=some s:=⟨ss[k]'(by have:=fq.out;omega),Qg (by have:=fq.out;omega)⟩;have hcell:wr.cell? ⟨b,o+k,none⟩=some (.string s):=(bg.out.cell (p:=⟨b,o+k,none⟩) hbw).trans (hrow.1 k s hs);have hsm:s.size<=maxLen:=by have:=zdg _ _ s hs;unfold maxLen;omega
   have hla:=hid (z0f zer ss k s hs);have hil:S.indent s.data.toList<=s.size:=by have:=S.zby s.data.toList;rw[S.lda] at this;exact this
   have hst:∃v,wr.cell? ⟨w.heap.size,k,none⟩=some v:=⟨_,dh.out.cell hlt⟩;obtain⟨v0,hst⟩:=hst;have hfz:=dh.out.frozen k;obtain⟨t,ht⟩:=Qyy (S.indent s.data.toList);have jh:Hid (∀wx,Calls prog 112 #[.string s] wx λe w'=>e=.returned (.int .i64 (t:Nat))/\wx=w'):=hid (λwx=>by
    have:=zba s wx hsm;rw[ht] at this;exact this.mono (λe w' h=>⟨h.1,h.2.symm⟩))
   have gy:Hid (Value.string (s.extract t s.size)=.string (S.B (zth zer ss k))):=hid (by
    rw[hla.out,<-S.zbp (s.extract t s.size),S.zbf,<-ht];rfl)
   rw[ht] at hil;clear hs ht;go_wp2_with (go_at_call 112;refine(jh.out _).mono ?_;rintro e w''⟨rfl,rfl⟩)
   go_roundw
   case rel=>
    refine⟨k+1,by omega,by go_num,?_,?_⟩
    ·refine(dh.out.set k (.string (s.extract t s.size))).congr ?_;intro j hj;by_cases hjk:j=k
     ·subst hjk;simp only[if_true];rw[if_pos (by omega)];exact gy.out
     ·rw[if_neg hjk];by_cases hj2:j<k
      ·rw[if_pos hj2,if_pos (by omega)]
      ·rw[if_neg hj2,if_neg (by omega)]
    ·exact bg.out.setCell (Qc _) _
   case measure=>simp[intOf];omega
  ·have hkn:k=n:=by omega
   subst hkn;have hcs:∀(j:Nat) x,(zh5 zer ss)[j]?=some x->wr.cell? ⟨w.heap.size,0+j,none⟩=some (.string x):=by
    intro j x hx;obtain⟨hj,rfl⟩:=zvl zer ss j x hx;have hjk:j<k:=(by have:=fq.out;omega);have:=dh.out.cell hjk;rw[if_pos hjk] at this;rw[Nat.zero_add];exact this
   have hml:(zh5 zer ss).length=k:=by rw[zgh];exact fq.out.symm
   have hJ:=Tryz.strings_Join w.heap.size 0 k (zh5 zer ss) ⟨#[10]⟩ wr hcs hBw (by omega) (by omega) (by
    have:=join_le ss;rw[<-zo0] at this;exact Qj this (by omega))
   rw[hml] at hJ;have jg:=hid hJ;clear hJ hcs hml;go_wp2_with (fail);refine jg.out.mono ?_;rintro e w1⟨rfl,hb1⟩;have jd:=hid (bg.out.trans (hb1.mono (Nat.le_of_lt hBw)));obtain⟨J,hJ⟩:∃J:List UInt8,J=Lib.join ((zh5 zer ss).map (·.data.toList)) (ByteArray.mk #[10]).data.toList:=⟨_,rfl⟩;have hJ2:Hid (J=S.zaj (dat ss)):=hid (by rw[hJ,zfe];show Lib.join (dat (zh5 zer ss)) [10]=_;rw[zo0]);have jk:J.length<=1000000:=by rw[hJ2.out,zfe];exact Qj (join_le ss) htot
   rw[<-hJ];clear hb1 hJ;go_wp2_with (fail);refine(zes _ 32 (by decide) _ (by rw[S.zhb];unfold maxLen;omega)).mono ?_;rintro e w2⟨r,rfl,hr,hrl,rfl⟩;go_wp2;go_ret;exact⟨r,rfl,hid (by rw[hr.out,hJ2.out]),jd.out⟩
end Go.Proofs.YtlojgpkajkedeaaGreatDoor
