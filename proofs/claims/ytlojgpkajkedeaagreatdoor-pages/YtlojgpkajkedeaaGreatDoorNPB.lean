import Derived.Test.YtlojgpkajkedeaaGreatDoorNShelfB
import Derived.Test.YtlojgpkajkedeaaGreatDoorNW9
import Derived.Test.YtlojgpkajkedeaaGreatDoorNE24
import Derived.Lib.OthersKept
import Derived.Lib.UnsafeStr
import Derived.RegionTactic
import Derived.Lib.ItoaNum
import Derived.Lib.ItoaLen
set_option maxHeartbeats 16000000
set_option maxRecDepth 100000
namespace Go.Proofs.YtlojgpkajkedeaaGreatDoor
open Go.RowKit Go.Proofs.Tryz
theorem Tryz.zwt:(prog.info? 104).map (·.size)=some 2:=by kernel_rfl
theorem Tryz.z0p:liesAt prog prog.depth 124 (2 / prog.cellsOf 124) 0 104 1=true:=by kernel_rfl
theorem Tryz.z1q:(prog.info? 5).map (λi=>(i.zero,i.size,i.bytes))=some (some (.int .u8 0),1,1):=by kernel_rfl
theorem Tryz.z4j:prog.cellsOf 5=1:=by kernel_rfl
abbrev zi7 (B b:Nat)(l:List UInt8)(w:World):Prop:=Lib.IsBuilderF 124 5 B b (Lib.byteCells l) w
def Wrote (T:TypeId)(B b:Nat)(l:List UInt8)(w:World)(w':World):Prop:=Lib.IsBuilderF T 5 B b (Lib.byteCells l) w'/\Below B w w'/\Lib.OthersKept 5 (some b) w w'
theorem Wrote.trans {T:TypeId}{B b:Nat}{l l2:List UInt8}{w w1 w2:World}(h:Wrote T B b l w w1)(h2:Wrote T B b l2 w1 w2):Wrote T B b l2 w w2:=⟨h2.1,h.2.1.trans h2.2.1,h.2.2.trans h2.2.2⟩
theorem Wrote.refl {T:TypeId}{B b:Nat}{l:List UInt8}{w:World}(h:Lib.IsBuilderF T 5 B b (Lib.byteCells l) w):Wrote T B b l w w:=⟨h,Below.refl _ _,Lib.OthersKept.refl _ _ _⟩
theorem zsh (b:Nat)(w:World)(h0:w.cell? ⟨b,0,none⟩=some (.pointer (some ⟨b,0,none⟩))):Calls prog 81 #[.pointer (some ⟨b,0,none⟩)] w λe w'=>e=.returned (.tuple #[])/\w'=w:=by
 obtain⟨j,hj,_⟩:=Option.map_eq_some_iff.1 Tryz.zwt;go_enter func81,ntmps81;go_wp2;rw[Lib.run_neq_ptr_same w _ underlying102 hj];go_wp2;go_end0;exact⟨rfl,rfl⟩
theorem zqa (b:Nat)(w:World)(h0:w.cell? ⟨b,0,none⟩=some (.pointer none))(hsh:w.shape? b=some (124,2))(hfz:w.frozen? ⟨b,0,none⟩=false):Calls prog 81 #[.pointer (some ⟨b,0,none⟩)] w λe w'=>e=.returned (.tuple #[])/\w'=w.setCell ⟨b,0,none⟩ (.pointer (some ⟨b,0,none⟩)):=by
 obtain⟨j,hj,hjs⟩:=Option.map_eq_some_iff.1 Tryz.zwt;go_enter func81,ntmps81;go_wp2;rw[Lib.run_to_unsafe w ⟨b,0,none⟩ underlying102 underlying171 hj (by rw[hjs];decide) hsh (Nat.zero_lt_succ 1)];simp only[Result.andThen];rw[Oper.upon_value];go_wp2;rw[run_callFunc_extern func108 (by kernel_rfl) (by kernel_rfl) (by kernel_rfl) (e:=Extern.AbiNoEscape.same) (by kernel_rfl)];rw[Lib.run_noEscape];simp only[Result.andThen];rw[Oper.upon_value];go_wp2;rw[Lib.run_from_unsafe w ⟨b,0,none⟩ underlying171 underlying102 hj hsh Tryz.z0p];simp only[Result.andThen];rw[Oper.upon_value];go_wp2;go_end0;exact⟨rfl,rfl⟩
theorem z1t (B b:Nat)(bs:List Value)(w:World)(h:Lib.IsBuilderF 124 5 B b bs w):Calls prog 81 #[.pointer (some ⟨b,0,none⟩)] w λe w'=>e=.returned (.tuple #[])/\Lib.BuilderAtF 124 5 B b (.pointer (some ⟨b,0,none⟩)) bs w'/\Below B w w'/\Lib.OthersKept 5 (some b) w w':=by
 rcases h with h|h
 ·refine(zqa b w h.cell0 h.shape h.frozen0).mono ?_;rintro e w'⟨rfl,rfl⟩;exact⟨rfl,h.used _,(Below.refl B w).setCell (p:=⟨b,0,none⟩) h.1 _,(Lib.OthersKept.refl _ _ _).setCell ⟨b,0,none⟩ rfl _⟩
 ·refine(zsh b w h.cell0).mono ?_;rintro e w'⟨rfl,rfl⟩;exact⟨rfl,h,Below.refl B _,Lib.OthersKept.refl _ _ _⟩
theorem zum {w:World}{B:Nat}{v:Value}{n:Nat}{xs:List Value}(h:w.ownsRowF B 5 1 v n xs)(g:Nat)(hg:v.ownBlock=some g):∃c fz,w.heap[g]?=some (.cells c 5 fz):=by
 rcases h.2 with ⟨h1,_⟩|⟨g',cap,cur,fz,hv,_,hh,_⟩
 ·rw[h1] at hg;simp[Value.ownBlock] at hg
 ·rw[hv] at hg;have:g'=g:=by simpa [Value.ownBlock] using hg
  subst this;exact⟨cur,fz,hh⟩
theorem pwrite (B b:Nat)(l:List UInt8)(s:ByteArray)(w:World)(h:zi7 B b l w)(hlen:l.length+s.size<=1000000000)(hBw:B<=w.heap.size):Calls prog 60 #[.pointer (some ⟨b,0,none⟩),.string s] w λe w'=>e=.returned (.tuple #[.int .i64 s.size,.nilIface])/\Wrote 124 B b (l++s.data.toList) w w':=by
 obtain⟨i0,hi,hz0,hz1,hz2⟩:=info_parts Tryz.z1q;have hC:=hid (z1t B b (Lib.byteCells l) w h);go_enter func60,ntmps60;go_wp2_with (go_at_call 81;refine hC.out.mono ?_)
 rintro e w1⟨rfl,h1,hb1,hk1⟩;obtain⟨hB,v,hbk,hown,hne⟩:=h1;have c0:w1.cell? ⟨b,0,none⟩=some (.pointer (some ⟨b,0,none⟩)):=by rw[Lib.cell_of_heap hbk];rfl
 have c1:w1.cell? ⟨b,1,none⟩=some v:=by rw[Lib.cell_of_heap hbk];rfl
 have hl:=Lib.byteCells_length l;go_wp2_with (at_builtin;refine Lib.wpList_append_own_stringF _ rfl _ _ 45 9 rfl B 5 i0 underlying45 underlying9 hi hz0 hz1 hz2 _ _ _ rfl hown s rfl ?c3 ?c4 ?c5 ?_)
 case c3=>unfold maxLen;omega
 case c4=>omega
 case c5=>have:=hb1.size;omega
 intro v' w2 hown' hgrow _;have hlt:b<w1.heap.size:=by
  rcases Nat.lt_or_ge b w1.heap.size with h' | h'
  ·exact h'
  ·simp[Array.getElem?_eq_none h'] at hbk
 have hb2:w2.heap[b]?=some (.cells #[.pointer (some ⟨b,0,none⟩),v] 124 (0,0)):=by
  rw[hgrow.block b hlt (λe=>hne e.symm)];exact hbk
 have d0:w2.cell? ⟨b,0,none⟩=some (.pointer (some ⟨b,0,none⟩)):=by rw[Lib.cell_of_heap hb2];rfl
 have d1:w2.cell? ⟨b,1,none⟩=some v:=by rw[Lib.cell_of_heap hb2];rfl
 have f1:w2.frozen? ⟨b,1,none⟩=false:=Lib.frozen_of_heap hb2 1;obtain⟨ao,n',cap,rfl⟩:∃ao n' cap,v'=.slice ao n' cap:=by
  rcases hown'.2 with ⟨hv,_⟩|⟨g,cap,cur,fz,hv,_⟩
  ·exact⟨_,_,_,hv⟩
  ·exact⟨_,_,_,hv⟩
 go_wp2;go_ret2;refine⟨rfl,?_,?_,?_⟩
 ·have hp:=Lib.BuilderAtF.put (T:=124) (e:=5) hB hb2 (bs':=Lib.byteCells l++Lib.strCells s) (by simpa [Lib.strCells_length,hl] using hown') (by decide);rw[Lib.strCells_eq,<-Lib.byteCells_append] at hp;exact .inr hp
 ·exact(hb1.grown hgrow (by have:=hb1.size;omega) (λk hk=>(hown.lt k hk).1)).setCell (p:=⟨b,1,none⟩) hB _
 ·exact(hk1.grown hgrow (zum hown)).setCell ⟨b,1,none⟩ rfl _
theorem ztk (B b:Nat)(l:List UInt8)(c:UInt8)(w:World)(h:zi7 B b l w)(hlen:l.length+1<=1000000000)(hBw:B<=w.heap.size):Calls prog 151 #[.pointer (some ⟨b,0,none⟩),.int .u8 (c.toNat:Int)] w λe w'=>e=.returned .nilIface/\Wrote 124 B b (l++[c]) w w':=by
 obtain⟨i0,hi,hz0,hz1,hz2⟩:=info_parts Tryz.z1q;have hC:=hid (z1t B b (Lib.byteCells l) w h);go_enter func151,ntmps151;go_wp2_with (go_at_call 81;refine hC.out.mono ?_)
 rintro e w1⟨rfl,h1,hb1,hk1⟩;obtain⟨hB,v,hbk,hown,hne⟩:=h1;have c0:w1.cell? ⟨b,0,none⟩=some (.pointer (some ⟨b,0,none⟩)):=by rw[Lib.cell_of_heap hbk];rfl
 have c1:w1.cell? ⟨b,1,none⟩=some v:=by rw[Lib.cell_of_heap hbk];rfl
 have hl:=Lib.byteCells_length l;go_wp2_with (at_builtin;refine wpList_append_ownF _ rfl _ _ 45 rfl B 5 i0 (.int .u8 0) 1 1 underlying45 hi hz0 hz1 hz2 rfl (by decide) _ _ _ rfl (hown.alloc _) ⟨w1.heap.size,0,none⟩ 1 1 [.int .u8 (c.toNat:Int)] rfl rfl ?c1 ?c2 ?c3 ?c4 ?c5 ?_)
 case c1=>
  intro j u hj;match j,hj with
  | 0,hj=>simp at hj;subst hj;simp[Addr.add]
 case c2=>intro u hu;simp at hu;subst hu;rfl
 case c3=>unfold maxLen;omega
 case c4=>omega
 case c5=>have:=hb1.size;simp;omega
 intro v' w2 hown' hgrow _;have hlt:b<w1.heap.size:=by
  rcases Nat.lt_or_ge b w1.heap.size with h' | h'
  ·exact h'
  ·simp[Array.getElem?_eq_none h'] at hbk
 have hb2:w2.heap[b]?=some (.cells #[.pointer (some ⟨b,0,none⟩),v] 124 (0,0)):=by
  rw[hgrow.block b (by simp;omega) (λe=>hne e.symm),Below.heap_alloc _ _ _ hlt];exact hbk
 have d0:w2.cell? ⟨b,0,none⟩=some (.pointer (some ⟨b,0,none⟩)):=by rw[Lib.cell_of_heap hb2];rfl
 have d1:w2.cell? ⟨b,1,none⟩=some v:=by rw[Lib.cell_of_heap hb2];rfl
 have f1:w2.frozen? ⟨b,1,none⟩=false:=Lib.frozen_of_heap hb2 1;obtain⟨g,cap,rfl⟩:∃g cap,v'=.slice (some ⟨g,0,none⟩) (l.length+1) cap:=by
  rcases hown'.2 with ⟨_,h0⟩|⟨g,cap,cur,fz,hv,_⟩
  ·omega
  ·exact⟨g,cap,hv⟩
 go_wp2;go_ret;refine⟨rfl,?_,?_,?_⟩
 ·have hp:=Lib.BuilderAtF.put (T:=124) (e:=5) hB hb2 (bs':=Lib.byteCells l++[.int .u8 (c.toNat:Int)]) (by simpa [hl] using hown') (by decide);rw[show (Lib.byteCells l++[.int .u8 (c.toNat:Int)])=Lib.byteCells (l++[c]) by rw[Lib.byteCells_append];rfl] at hp;exact .inr hp
 ·exact((hb1.alloc (by have:=hb1.size;omega) _).grown hgrow (by have:=hb1.size;simp;omega) (λk hk=>(hown.lt k hk).1)).setCell (p:=⟨b,1,none⟩) hB _
 ·exact((hk1.alloc _).grown hgrow (zum (hown.alloc _))).setCell ⟨b,1,none⟩ rfl _
theorem pstring (B b:Nat)(l:List UInt8)(w:World)(h:zi7 B b l w)(h0:l≠[]):Calls prog 61 #[.pointer (some ⟨b,0,none⟩)] w λe w'=>e=.returned (.string (S.B l))/\Below B w w':=by
 obtain⟨p,hB,v,hbk,hown,hne⟩:∃p,Lib.BuilderAtF 124 5 B b p (Lib.byteCells l) w:=by
  rcases h with h|h
  ·exact⟨_,h⟩
  ·exact⟨_,h⟩
 have hl0:l.length≠0:=by simpa using h0
 rw[Lib.byteCells_length] at hown;obtain⟨g,cap,cur,fz,rfl,hbg,hg,hfz,hnc,hcm,hcs,htake⟩:∃g cap cur fz,v=.slice (some ⟨g,0,none⟩) l.length cap/\B<=g/\w.heap[g]?=some (.cells cur 5 fz)/\fz.2<=l.length*1/\l.length<=cap/\cap<=maxLen/\cur.size=cap*1/\cur.toList.take (l.length*1)=Lib.byteCells l:=by
  rcases hown.2 with ⟨_,hz⟩|⟨g,cap,cur,fz,hv,r⟩
  ·exact absurd hz hl0
  ·exact⟨g,cap,cur,fz,hv,r⟩
 have c1:w.drew.cell? ⟨b,1,none⟩=some (.slice (some ⟨g,0,none⟩) l.length cap):=by
  have:w.drew.heap[b]?=some (.cells #[p,.slice (some ⟨g,0,none⟩) l.length cap] 124 (0,0)):=hbk;rw[Lib.cell_of_heap this];rfl
 have hSD:(Builtin.unsafeSliceData_ #[45] 137 #[.slice (some ⟨g,0,none⟩) l.length cap]).run prog w.drew=.ok (.pointer (some ⟨g,0,none⟩)) w.drew:=
  Lib.run_unsafeSliceData_row _ _ _ _ _ _ (by omega)
 have hUS:(Builtin.unsafeString_ #[137,3] 9 #[.pointer (some ⟨g,0,none⟩),.int .i64 l.length]).run prog w.drew=.ok (.string ⟨l.toArray⟩) (w.drew.freeze ⟨g,0,none⟩ l.length):=by
  refine Lib.run_unsafeString_row w.drew 137 3 9 5 underlying137 Tryz.z4j g cur.size (by have hg':w.drew.heap[g]?=some (.cells cur 5 fz):=hg;simp[World.shape?,hg']) l h0 (by omega) (by unfold maxLen at hcm;omega) ?_;intro j x hx;exact hown.cells (g:=g) rfl j (.int .u8 x.toNat) (by simp[Lib.byteCells,hx])
 go_enter func61,ntmps61;go_wp2;go_region
 all_goals (go_wp2;go_ret;exact⟨rfl,Lib.below_freeze (Below.drew (Below.refl B w)) (p:=⟨g,0,none⟩) hbg _⟩)
theorem zu0 (b:Nat)(w:World)(hbk:w.heap[b]?=some (.cells #[.pointer none,.slice none 0 0] 124 (0,0))):Calls prog 61 #[.pointer (some ⟨b,0,none⟩)] w λe w'=>e=.returned (.string ⟨#[]⟩)/\Below w.heap.size w w':=by
 have c1:w.drew.cell? ⟨b,1,none⟩=some (.slice none 0 0):=by
  have:w.drew.heap[b]?=some (.cells #[.pointer none,.slice none 0 0] 124 (0,0)):=hbk;rw[Lib.cell_of_heap this];rfl
 have hSD:(Builtin.unsafeSliceData_ #[45] 137 #[.slice none 0 0]).run prog w.drew=.ok (.pointer none) w.drew:=rfl;have hUS:=λW:World=>Lib.run_unsafeString_none (P:=prog) W 137 3 9 none;go_enter func61,ntmps61;go_wp2;go_region
 all_goals (go_wp2;go_ret;exact⟨rfl,Below.drew (Below.refl _ w)⟩)
theorem zwm (w:World):zi7 w.heap.size w.heap.size [] (w.alloc (.cells #[.pointer none,.slice none 0 0] 124)):=by
 refine Lib.IsBuilderF.of (.inl ⟨Qc _,.slice none 0 0,za1 _ _,World.ownsRow_nil _ _ _ _,?_⟩);simp[Value.ownBlock]
namespace S
def esc1 (b:UInt8):List UInt8:=if b=38 then [38,97,109,112,59] else if b=60 then [38,108,116,59] else if b=62 then [38,103,116,59] else if b=34 then [38,113,117,111,116,59] else [b]
def escH (l:List UInt8):List UInt8:=(l.map esc1).flatten
theorem zxx (b:UInt8)(l:List UInt8):escH (b::l)=esc1 b++escH l:=by simp[escH]
theorem zu6 (a b:List UInt8):escH (a++b)=escH a++escH b:=by simp[escH]
theorem z3z (b:UInt8):(esc1 b).length<=6:=by unfold esc1;split<;>(try split)<;>(try split)<;>(try split)<;>simp
theorem zc9 (l:List UInt8):(escH l).length<=6*l.length:=by
 induction l with
 | nil=>simp[escH]
 | cons b l ih=>rw[zxx,Qa,Qd];have:=z3z b;omega
theorem zqw (l:List UInt8)(k:Nat)(b:UInt8)(h:l[k]?=some b):escH (l.take (k+1))=escH (l.take k)++esc1 b:=by
 rw[List.take_add_one,h,zu6];simp[escH]
end S
theorem zut (B b:Nat)(l:List UInt8)(s:ByteArray)(w:World)(h:zi7 B b l w)(hlen:l.length+6*s.size<=1000000000)(hBw:B<=w.heap.size):Calls prog 195 #[.pointer (some ⟨b,0,none⟩),.string s] w λe w'=>e=.returned (.tuple #[])/\Wrote 124 B b (l++S.escH s.data.toList) w w':=by
 have hW0:=hid (Wrote.refl h);clear h;go_enter func195,ntmps195;go_wp2;go_loopw [4,5,8] (λ_ _ i wr=>∃k:Nat,k<=s.size/\i=.int .i64 k/\Hid (Wrote 124 B b (l++S.escH (s.data.toList.take k)) w wr)) (λ_ _ i _=>s.size-(intOf i).toNat)
 case atStart=>exact⟨0,Qt _,rfl,by simpa [S.escH] using hW0⟩
 case round=>
  obtain⟨k,hk,rfl,hW⟩:=hrel;have hBr:B<=wr.heap.size:=Qj hBw hW.out.2.1.size;by_cases hlt:k<s.size
  ·have hg:s.data.toList[k]?=some s[k]:=S.zad s k hlt;have hsn:=hid (S.zqw _ k _ hg);have hle:=S.zc9 (s.data.toList.take k);rw[Ql,S.lda] at hle;have hbyte:s[k].toNat<256:=s[k].toNat_lt;obtain⟨c,hc⟩:=Qyy (s[k]);rw[hc] at hsn hbyte;have hcI:(0:Int)<=(k:Int):=by omega
   have bg:(k:Int)<(s.size:Int):=by omega
   have step:∀(x:ByteArray),S.esc1 c=x.data.toList->x.size<=6->Hid (Calls prog 60 #[.pointer (some ⟨b,0,none⟩),.string x] wr λe w'=>e=.returned (.tuple #[.int .i64 x.size,.nilIface])/\Hid (Wrote 124 B b (l++S.escH (s.data.toList.take (k+1))) w w')):=λx hx h6=>hid ((pwrite B b _ x wr hW.out.1 (by rw[Qa];omega) hBr).mono (λe w' ⟨h1,h2⟩=>⟨h1,hid (by
    rw[hsn.out,hx,<-Qp];exact hW.out.trans h2)⟩))
   clear hg;by_cases h0:c=38
   ·have hx:=step ⟨#[38,97,109,112,59]⟩ (by rw[h0];rfl) (by decide);have hcn:s[k].toNat=38:=(by rw[hc,h0];rfl);clear step h0 hc;go_wp2_with (fail);refine hx.out.mono ?_;rintro e w2⟨rfl,hw2⟩;go_wp2;go_roundw
    case rel=>exact⟨k+1,by omega,by go_num,hw2⟩
    case measure=>simp[intOf];omega
   by_cases h1:c=60
   ·have hx:=step ⟨#[38,108,116,59]⟩ (by rw[h1];rfl) (by decide);have hcn:s[k].toNat=60:=(by rw[hc,h1];rfl);have hb0:(((s[k].toNat:Nat):Int) == 38)=false:=(by rw[Qe,hc];intro e;exact h0 (Qk.1 (Int.ofNat_inj.1 e)));clear step h0 h1 hc;go_wp2_with (fail);refine hx.out.mono ?_;rintro e w2⟨rfl,hw2⟩;go_wp2;go_roundw
    case rel=>exact⟨k+1,by omega,by go_num,hw2⟩
    case measure=>simp[intOf];omega
   by_cases h2:c=62
   ·have hx:=step ⟨#[38,103,116,59]⟩ (by rw[h2];rfl) (by decide);have hcn:s[k].toNat=62:=(by rw[hc,h2];rfl);have hb0:(((s[k].toNat:Nat):Int) == 38)=false:=(by rw[Qe,hc];intro e;exact h0 (Qk.1 (Int.ofNat_inj.1 e)));have hb1:(((s[k].toNat:Nat):Int) == 60)=false:=(by rw[Qe,hc];intro e;exact h1 (Qk.1 (Int.ofNat_inj.1 e)));clear step h0 h1 h2 hc;go_wp2_with (fail);refine hx.out.mono ?_;rintro e w2⟨rfl,hw2⟩;go_wp2;go_roundw
    case rel=>exact⟨k+1,by omega,by go_num,hw2⟩
    case measure=>simp[intOf];omega
   by_cases h3:c=34
   ·have hx:=step ⟨#[38,113,117,111,116,59]⟩ (by rw[h3];rfl) (by decide);have hcn:s[k].toNat=34:=(by rw[hc,h3];rfl);have hb0:(((s[k].toNat:Nat):Int) == 38)=false:=(by rw[Qe,hc];intro e;exact h0 (Qk.1 (Int.ofNat_inj.1 e)));have hb1:(((s[k].toNat:Nat):Int) == 60)=false:=(by rw[Qe,hc];intro e;exact h1 (Qk.1 (Int.ofNat_inj.1 e)));have hb2:(((s[k].toNat:Nat):Int) == 62)=false:=(by rw[Qe,hc];intro e;exact h2 (Qk.1 (Int.ofNat_inj.1 e)));clear step h0 h1 h2 h3 hc;go_wp2_with (fail);refine hx.out.mono ?_;rintro e w2⟨rfl,hw2⟩;go_wp2;go_roundw
    case rel=>exact⟨k+1,by omega,by go_num,hw2⟩
    case measure=>simp[intOf];omega
   have hx:Hid (Calls prog 151 #[.pointer (some ⟨b,0,none⟩),.int .u8 (s[k].toNat:Int)] wr λe w'=>e=.returned .nilIface/\Hid (Wrote 124 B b (l++S.escH (s.data.toList.take (k+1))) w w')):=hid (by
    rw[hc];exact(ztk B b _ c wr hW.out.1 (by rw[Qa];omega) hBr).mono (λe w' ⟨g1,g2⟩=>⟨g1,hid (by
     rw[hsn.out,<-Qp,show S.esc1 c=[c] by unfold S.esc1;rw[if_neg h0,if_neg h1,if_neg h2,if_neg h3]];exact hW.out.trans g2)⟩))
   have hb0:(((s[k].toNat:Nat):Int) == 38)=false:=by rw[Qe,hc];intro e;exact h0 (Qk.1 (Int.ofNat_inj.1 e))
   have hb1:(((s[k].toNat:Nat):Int) == 60)=false:=by rw[Qe,hc];intro e;exact h1 (Qk.1 (Int.ofNat_inj.1 e))
   have hb2:(((s[k].toNat:Nat):Int) == 62)=false:=by rw[Qe,hc];intro e;exact h2 (Qk.1 (Int.ofNat_inj.1 e))
   have hb3:(((s[k].toNat:Nat):Int) == 34)=false:=by rw[Qe,hc];intro e;exact h3 (Qk.1 (Int.ofNat_inj.1 e))
   clear step h0 h1 h2 h3 hc;go_wp2_with (fail);refine hx.out.mono ?_;rintro e w2⟨rfl,hw2⟩;go_wp2;go_roundw
   case rel=>exact⟨k+1,by omega,by go_num,hw2⟩
   case measure=>simp[intOf];omega
  ·have hfin:Hid (Wrote 124 B b (l++S.escH s.data.toList) w wr):=by
    have:k=s.size:=(by omega);subst this;rw[Qbj (by rw[S.lda];omega)] at hW;exact hW
   go_wp2;go_end0;exact⟨rfl,hfin.out⟩
def wgP:Pt->Nat
 | .mk _ i t kids _ _ _=>1+i.length+t.length+wgL kids
 where
 wgL:List Pt->Nat
 | []=>0
 | p::r=>wgP p+wgL r
abbrev wgL:=wgP.wgL
theorem zpr (p:Pt):wgP p=1+p.info.length+p.text.length+wgL p.kids:=by cases p;rfl
theorem zly:wgL []=0:=rfl
theorem zbs (p:Pt)(r:List Pt):wgL (p::r)=wgP p+wgL r:=rfl
theorem zd2 (a b:List Pt):wgL (a++b)=wgL a+wgL b:=by
 induction a with
 | nil=>simp[wgP.wgL]
 | cons p r ih=>simp only[List.cons_append,zbs,ih];omega
theorem zgw (p:Pt)(t:List UInt8):wgP (p.za4 t)+p.text.length=wgP p+t.length:=by
 cases p with
 | mk k i t0 kids z a b=>show 1+i.length+t.length+wgL kids+t0.length=1+i.length+t0.length+wgL kids+t.length;omega
theorem zx9 (f:Nat)(l:List Pt):wgL (zdy f l)<=wgL l:=by
 induction f generalizing l with
 | zero=>exact Qt _
 | succ f ih=>
  cases l with
  | nil=>exact Qc _
  | cons p r=>
   simp only[zdy];split
   ·split
    ·have:=ih r;rw[zbs];omega
    ·cases r with
     | nil=>exact Qc _
     | cons q r'=>
      dsimp only;split
      ·have:=ih (q.za4 (p.text++q.text)::r');have h2:=zgw q (p.text++q.text);rw[Qa] at h2;have h3:=zpr p;rw[zbs] at this;rw[zbs,zbs];omega
      ·have:=ih (q::r');rw[zbs,zbs];omega
   ·have:=ih r;rw[zbs,zbs];omega
theorem zzj (f:Nat)(L:List Pt)(s:Pt):wgL ((zci f L s).1++[(zci f L s).2])<=wgL (L++[s]):=by
 induction f generalizing L s with
 | zero=>exact Qc _
 | succ f ih=>
  simp only[zci];split
  ·rename_i hs;cases ho:zem s L with
   | none=>exact Qc _
   | some v=>
    obtain⟨l1,x,m⟩:=v;dsimp only;refine Qj (ih _ _) ?_;obtain⟨h1,h2⟩:=zjh s L l1 x m ho;subst h1;have hx:x.text≠[]:=by
     intro e;unfold opens at h2;rw[e] at h2;simp at h2
    have hxl:0<x.text.length:=Qbf.2 hx;have hsl:0<s.text.length:=Qbf.2 hs.2;have hz:1<=zch x s:=(by unfold zch;split<;>omega);have hj:=zx9 m.length m;have hw:wgP (zhs (zch x s) m)<=1+wgL m:=by
     rw[zpr];show 1+0+0+wgL (zfv m)<=_;unfold zfv;omega
    have hx2:=zgw x (x.text.drop (zch x s));have hs2:=zgw s (s.text.drop (zch x s));rw[Qf] at hx2 hs2;simp only[zd2,zbs,zly];omega
  ·exact Qc _
theorem z02 (L l:List Pt):wgL (zj0 L l)<=wgL (L++l):=by
 induction l generalizing L with
 | nil=>simp[zj0]
 | cons s r ih=>
  simp only[zj0];refine Qj (ih _) ?_;have:=zzj s.text.length L s;simp only[zd2,zbs,zly] at this ⊢;omega
theorem zqy (l:List Pt):wgL (zdi l)<=wgL l:=by
 unfold zdi zfv;have h1:=zx9 (pairT l).length (pairT l);have h3:=z02 [] l;rw[List.nil_append] at h3;unfold pairT at *;omega
theorem zsy (ct:ByteArray)(f k:Nat):wgL (zd1 ct f k)<=2*(k-f):=by
 unfold zd1;split
 ·have:((ct.data.toList.drop f).take (k-f)).length<=k-f:=by rw[Ql];omega
  rw[zbs,zly];show 1+0+((ct.data.toList.drop f).take (k-f)).length+0+0<=_;omega
 ·exact Qt _
def FitW (s:St):Prop:=wgL s.ps<=3*s.f/\s.f<=s.k
theorem FitW.text {s:St}(h:FitW s)(n:Nat):FitW (s.text n):=⟨h.1,by have:=h.2;show s.f<=s.k+n;omega⟩
theorem FitW.skip {s:St}(h:FitW s)(ct:ByteArray)(n:Nat):FitW (s.skip ct n):=by
 refine⟨?_,Qc _⟩;have h1:=zsy ct s.f s.k;have h2:=h.1;have h3:=h.2;show wgL (s.ps++zd1 ct s.f s.k)<=3*(s.k+n);rw[zd2];omega
theorem FitW.lay {s:St}(h:FitW s)(ct:ByteArray)(p:Pt)(n:Nat)(hp:wgP p<=3*n):FitW (s.lay ct p n):=by
 refine⟨?_,Qc _⟩;have h1:=zsy ct s.f s.k;have h2:=h.1;have h3:=h.2;show wgL ((s.ps++zd1 ct s.f s.k)++[p])<=3*(s.k+n);rw[zd2,zd2,zbs,zly];omega
theorem zot (k:Int)(i t:List UInt8)(z:Nat)(a b:Bool):wgP (.mk k i t [] z a b)=1+i.length+t.length:=rfl
theorem zqp (l:List Pt)(j:Nat):wgL (l.take j)+wgL (l.drop (j+1))<=wgL l:=by
 have h:wgL l=wgL (l.take j)+wgL (l.drop j):=by rw[<-zd2,List.take_append_drop]
 rw[h];cases hd:l.drop j with
 | nil=>rw[<-Qbb,hd];simp[wgP.wgL]
 | cons p r=>rw[<-Qbb,hd,zbs];show _+wgL r<=_;omega
theorem FitW.open {s:St}(h:FitW s)(ct:ByteArray)(t:List UInt8)(im:Bool)(ht:1<=t.length):FitW (s.open ct t im):=by
 have:=FitW.lay h ct (zbk t) t.length (by unfold zbk;rw[zot];simp only[Qi];omega);exact this
theorem FitW.bracket {s:St}(h:FitW s)(ct:ByteArray):FitW (s.bracket ct).2:=by
 unfold St.bracket;split
 ·unfold St.close;split
  ·exact h
  ·rename_i o _;split
   ·refine⟨?_,Qc _⟩;have h1:=zsy ct s.f s.k;have h2:=h.1;have h3:=h.2;have h4:=zqp s.ps o.j;have h5:=zqy (s.ps.drop (o.j+1)++zd1 ct s.f s.k);rw[zd2] at h5;show wgL (s.ps.take o.j++[zib _ o.image (s.ps.drop (o.j+1)++zd1 ct s.f s.k)])<=3*(s.k+(3+_));rw[zd2,zbs,zly,zpr];show wgL (s.ps.take o.j)+(1+(S.addrOf (ct.data.toList.drop (s.k+1))).length+0+wgL (zdi (s.ps.drop (o.j+1)++zd1 ct s.f s.k))+0)<=3*(s.k+(3+(S.addrOf (ct.data.toList.drop (s.k+1))).length));omega
   ·exact h
 ·split
  ·exact h.open ct _ _ (by decide)
  ·split
   ·exact h.open ct _ _ (by decide)
   ·exact h
theorem FitW.step {s:St}(h:FitW s)(ct:ByteArray)(hk:s.k<ct.size):FitW (step ct s):=by
 rw[zep ct s hk];have hs:=zgd ct s.k hk;unfold zje;split
 ·split
  ·exact h.lay ct _ _ (by decide)
  ·split
   ·exact(h.skip ct 1).text 1
   ·exact h.text 1
 ·split
  ·split
   ·rename_i v hv;have hb:=S.zh1 _ _ _ (by rw[Qf,S.lda];omega) hv;refine h.lay ct _ _ ?_;unfold zh3;rw[zot];have:=S.zn1 ((ct.data.toList.drop (s.k+S.same (ct.data.toList.drop s.k))).take (v-S.same (ct.data.toList.drop s.k)));rw[Ql] at this;show 1+0+(S.zcf _).length<=_;omega
   ·exact h.text _
  ·split
   ·split
    ·split
     ·exact h.lay ct _ _ (by show 1+0+0+0<=_;omega)
     ·exact h.lay ct _ _ (by show 1+0+0+0<=_;omega)
    ·exact h.text _
   ·split
    ·exact h.lay ct _ _ (by decide)
    ·split
     ·split
      ·refine h.lay ct _ _ ?_;show 1+List.length _+0+(1+0+List.length _+0+0)<=3*(List.length _+_);omega
      ·exact h.text 1
     ·split
      ·refine h.lay ct _ _ ?_;unfold zku;rw[zot];show 1+0+((ct.data.toList.drop s.k).take _).length<=_;rw[Ql];omega
      ·split
       ·split
        ·exact h.bracket ct
        ·exact(h.bracket ct).text 1
       ·exact h.text 1
theorem zyy (ct:ByteArray)(s:St)(r:List Pt)(h:Ends ct s r)(hf:FitW s):wgL r<=3*ct.size:=by
 induction h with
 | done s h=>rw[<-h];have:=(hf.skip ct 0).1;exact this
 | go s r h hr ih=>exact ih (hf.step ct h)
theorem zl8 (c:List UInt8):wgL (zen c)<=3*c.length:=by
 by_cases hx:∃r,Ends (S.B c) zh7 r
 ·obtain⟨r,h⟩:=hx;rw[zky c r h];have h1:=zqy r;have h2:=zyy _ _ _ h ⟨Qc _,Qc _⟩;rw[S.zav] at h2;omega
 ·unfold zen;rw[dif_neg hx];exact Qt _
namespace S
def word (l:List UInt8):List UInt8:=(Lib.cut l [32]).1
end S
mutual
def ptPl:Pt->List UInt8
 | .mk k _ t kids _ _ _=>if k=8\/k=11 then t else if k=9\/k=10 then [32] else zcr kids
def zcr:List Pt->List UInt8
 | []=>[]
 | p::r=>ptPl p++zcr r
end
theorem z3o (p:Pt):ptPl p=if p.kind=8\/p.kind=11 then p.text else if p.kind=9\/p.kind=10 then [32] else zcr p.kids:=by cases p;simp only[ptPl];rfl
theorem zqf (a b:List Pt):zcr (a++b)=zcr a++zcr b:=by
 induction a with
 | nil=>simp[zcr]
 | cons p r ih=>simp only[List.cons_append,zcr,ih,Qp]
mutual
theorem z4g:∀p:Pt,(ptPl p).length<=wgP p
 | .mk k i t kids _ _ _=>by
  have h:=zj3 kids;simp only[ptPl];show _<=1+i.length+t.length+wgL kids;split
  ·omega
  ·split
   ·simp only[List.length_singleton];omega
   ·omega
theorem zj3:∀l:List Pt,(zcr l).length<=wgL l
 | []=>by simp[zcr]
 | p::r=>by
  have h1:=z4g p;have h2:=zj3 r;simp only[zcr,Qa,zbs];omega
end
mutual
def ptHt:Pt->List UInt8
 | .mk k i t kids _ _ _=>
  if k=8 then S.escH t
  else if k=9 then [10]
  else if k=10 then [60,98,114,62,10]
  else if k=11 then [60,99,111,100,101,62]++S.escH t++[60,47,99,111,100,101,62]
  else if k=12 then [60,97,32,104,114,101,102,61,34]++S.escH i++([34,62]++zdn kids++[60,47,97,62])
  else if k=13 then [60,105,109,103,32,115,114,99,61,34]++S.escH i++[34,32,97,108,116,61,34]++S.escH (zcr kids)++[34,62]
  else if k=14 then [60,101,109,62]++zdn kids++[60,47,101,109,62]
  else if k=15 then [60,115,116,114,111,110,103,62]++zdn kids++[60,47,115,116,114,111,110,103,62]
  else []
def zdn:List Pt->List UInt8
 | []=>[]
 | p::r=>ptHt p++zdn r
end
theorem z4o (p:Pt):ptHt p =
  if p.kind=8 then S.escH p.text
  else if p.kind=9 then [10]
  else if p.kind=10 then [60,98,114,62,10]
  else if p.kind=11 then [60,99,111,100,101,62]++S.escH p.text++[60,47,99,111,100,101,62]
  else if p.kind=12 then [60,97,32,104,114,101,102,61,34]++S.escH p.info++([34,62]++zdn p.kids++[60,47,97,62])
  else if p.kind=13 then [60,105,109,103,32,115,114,99,61,34]++S.escH p.info++[34,32,97,108,116,61,34]++S.escH (zcr p.kids)++[34,62]
  else if p.kind=14 then [60,101,109,62]++zdn p.kids++[60,47,101,109,62]
  else if p.kind=15 then [60,115,116,114,111,110,103,62]++zdn p.kids++[60,47,115,116,114,111,110,103,62]
  else []:=by cases p;simp only[ptHt];rfl
theorem zq9 (a b:List Pt):zdn (a++b)=zdn a++zdn b:=by
 induction a with
 | nil=>simp[zdn]
 | cons p r ih=>simp only[List.cons_append,zdn,ih,Qp]
mutual
theorem z3n:∀p:Pt,(ptHt p).length<=30*wgP p
 | .mk k i t kids _ _ _=>by
  have h:=zj4 kids;have h2:=S.zc9 t;have h3:=S.zc9 i;have h4:=S.zc9 (zcr kids);have h5:=zj3 kids;simp only[ptHt];show _<=30*(1+i.length+t.length+wgL kids);(repeat' split)<;>(try simp only[Qa,Qd,Qi])<;>omega
theorem zj4:∀l:List Pt,(zdn l).length<=30*wgL l
 | []=>by simp[zdn]
 | p::r=>by
  have h1:=z3n p;have h2:=zj4 r;simp only[zdn,Qa,zbs];omega
end
noncomputable def zbl (c:List UInt8):List UInt8:=zdn (zen c)
theorem zzt (c:List UInt8):(zbl c).length<=90*c.length:=by
 have h1:=zj4 (zen c);have h2:=zl8 c;unfold zbl;omega
def zgb (n:Int):List UInt8:=if 0<=n then [111,108] else [117,108]
def zhp (n:Int):List UInt8:=if 0<=n/\n≠1 then [32,115,116,97,114,116,61,34]++Lib.itoa n++[34] else []
mutual
def zkp (cont:List UInt8->List UInt8) (tight:Bool):S.Blk->List UInt8
 | .at_ _ k n info text loose kids=>
  if k=1 then (if tight=true then cont text++[10] else [60,112,62]++cont text++[60,47,112,62,10])
  else if k=2 then [60,104]++Lib.itoa n++[62]++cont text++([60,47,104]++Lib.itoa n++[62,10])
  else if k=3 then [60,112,114,101,62,60,99,111,100,101]++(if info=[] then [] else [32,99,108,97,115,115,61,34]++S.escH (S.word info)++[34])++[62]++S.escH text++[60,47,99,111,100,101,62,60,47,112,114,101,62,10]
  else if k=4 then [60,104,114,62,10]
  else if k=5 then [60,113,117,111,116,101,62,10]++zbj cont false kids++[60,47,113,117,111,116,101,62,10]
  else if k=6 then [60]++zgb n++zhp n++[62,10]++zbd cont (!loose) kids++([60,47]++zgb n++[62,10])
  else []
def zbj (cont:List UInt8->List UInt8) (tight:Bool):List S.Blk->List UInt8
 | []=>[]
 | b::r=>zkp cont tight b++zbj cont tight r
def zbd (cont:List UInt8->List UInt8) (tight:Bool):List S.Blk->List UInt8
 | []=>[]
 | b::r=>zj2 cont tight b++zbd cont tight r
def zj2 (cont:List UInt8->List UInt8) (tight:Bool):S.Blk->List UInt8
 | .at_ _ _ _ _ _ _ kids=>[60,108,105,62,10]++zbj cont tight kids++[60,47,108,105,62,10]
end
theorem zoh (cont:List UInt8->List UInt8)(tight:Bool)(a b:List S.Blk):zbj cont tight (a++b)=zbj cont tight a++zbj cont tight b:=by
 induction a with
 | nil=>simp[zbj]
 | cons p r ih=>simp only[List.cons_append,zbj,ih,Qp]
theorem zn3 (cont:List UInt8->List UInt8)(tight:Bool)(a b:List S.Blk):zbd cont tight (a++b)=zbd cont tight a++zbd cont tight b:=by
 induction a with
 | nil=>simp[zbd]
 | cons p r ih=>simp only[List.cons_append,zbd,ih,Qp]
end Go.Proofs.YtlojgpkajkedeaaGreatDoor
