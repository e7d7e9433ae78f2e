import Derived.Test.YtlojgpkajkedeaaGreatDoorMRW
namespace Go.Proofs.YtlojgpkajkedeaaGreatDoor
open Go.RowKit
theorem z0t (c:UInt8) (wx:World):(convert 45 9 (.slice (some ⟨wx.heap.size,0,none⟩) 1 1)).run Tryz.prog (wx.alloc (.cells #[.int .u8 (c.toNat:Int)] 5)) = .ok (.string ⟨#[c]⟩) (wx.alloc (.cells #[.int .u8 (c.toNat:Int)] 5)):=by
 refine run_convert_bytes_back _ 45 9 5 ⟨wx.heap.size,0,none⟩ 1 [c] Tryz.underlying45 Tryz.underlying5 Tryz.underlying9 ?_
 intro j hj
 have:j=0:=by simpa using hj
 subst this
 exact World.news_of_block (za1 _ _) 0 _ rfl
theorem zz6 (a b:List UInt8):S.B a++S.B b=S.B (a++b):=by
 unfold S.B
 apply ByteArray.ext
 simp[ByteArray.data_append]
def zhh (t:List UInt8):List Rn:=if t=[] then [] else [.nd 8 0 [] t 0 []]
def zd6:List RPt→List UInt8→List Rn
 | [],t=>zhh t
 | p::r,t=>if p.what=1 then zhh t++p.node::zd6 r [] else zd6 r (t++p.s++List.replicate p.left p.c)
def PRow (w:World) (a:Option Addr) (ps:List (RPt × Value)):Prop:=ps=[]∨∃ b o,a=some ⟨b,o,none⟩∧b<w.heap.size∧∀ (i:Nat) (p:RPt × Value),ps[i]?=some p→∀ j u,(pt16 p.1 p.2)[j]?=some u→w.cell? ⟨b,o+i*16+j,none⟩=some u
def zc2 (ps:List (RPt × Value)):Nat:=(ps.map (fun p=>p.1.s.length+p.1.left)).sum
theorem zh9 (ps:List (RPt × Value)) (i:Nat) (p:RPt × Value) (h:ps[i]?=some p):zc2 (ps.take (i+1))=zc2 (ps.take i)+(p.1.s.length+p.1.left):=by
 unfold zc2
 rw[List.take_add_one,h];simp
theorem ze1 (ps:List (RPt × Value)) (i:Nat):zc2 (ps.take i)≤zc2 ps:=by
 have h:zc2 ps=zc2 (ps.take i)+zc2 (ps.drop i):=by
  unfold zc2
  rw[← List.sum_append,← List.map_append,List.take_append_drop]
 omega
structure MOwn (K:Nat→Prop) (w:World) (ns:List (Rn × Value)) (a:Option Addr) (cp:Nat) (wr:World):Prop where
 own:wr.ownsRow w.heap.size 118 7 (.slice a ns.length cp) ns.length (zc6 ns)
 kids:∀ (j:Nat) (q:Rn × Value),ns[j]?=some q→RepN wr K q.2 q.1.kids
 below:Below w.heap.size w wr
theorem MOwn.after {K:Nat→Prop} {w wr wx:World} {ns:List (Rn × Value)} {a:Option Addr} {cp:Nat} (h:MOwn K w ns a cp wr) (hK:∀ x,K x→x<w.heap.size) (hb:Below wr.heap.size wr wx):MOwn K w ns a cp wx:=by
 have h1:=h.below.size
 exact ⟨zej h.own (fun x _ hx2=>hb.block x hx2),fun j q hq=>(h.kids j q hq).move (fun x hx=>hx) (fun x hx=>hb.block x (Nat.lt_of_lt_of_le (hK x hx) h1)),h.below.trans (hb.mono h1)⟩
theorem MOwn.step {K:Nat→Prop} {w wr w2:World} {ob:Obj} {ns:List (Rn × Value)} {a:Option Addr} {cp g cap1:Nat} {t:Rn} {kv:Value} (h:MOwn K w ns a cp wr) (hK:∀ x,K x→x<w.heap.size) (hrep:RepN wr K kv t.kids)
  (ho:w2.ownsRow w.heap.size 118 7 (.slice (some ⟨g,0,none⟩) (ns.length+1) cap1) (ns.length+1) (zc6 ns++rn7 t kv)) (hg:(wr.alloc ob).grownBy w2 (Value.slice a ns.length cp).ownBlock):MOwn K w (ns++[(t,kv)]) (some ⟨g,0,none⟩) cap1 w2:=by
 have h1:=h.below.size
 have hlt:=h.own.lt
 have hbX:Below wr.heap.size wr (wr.alloc ob):=(Below.refl _ _).alloc (Nat.le_refl _) ob
 have hblk:∀ x,K x→w2.heap[x]?=wr.heap[x]?:=fun x hx=>by
  have h2:=hK x hx
  have h3:=hbX.size
  rw[hg.block x (by omega) (fun e=>by have:=hlt x e.symm;omega),hbX.block x (by omega)]
 refine ⟨by rw[zjy,List.length_append];exact ho,?_,?_⟩
 ·intro j q hq
  by_cases hj:j<ns.length
  ·rw[List.getElem?_append_left hj] at hq
   exact (h.kids j q hq).move (fun x hx=>hx) hblk
  ·rw[List.getElem?_append_right (by omega)] at hq
   have hj0:j-ns.length=0:=by have:=(List.getElem?_eq_some_iff.1 hq).1;simp at this;omega
   rw[hj0] at hq;simp at hq;subst hq
   exact hrep.move (fun x hx=>hx) hblk
 ·exact Below.grown (h.below.trans (hbX.mono h1)) hg (Nat.le_trans h1 hbX.size) (fun q hq=>(hlt q hq).1)
structure MRel (K:Nat→Prop) (w:World) (ps:List (RPt × Value)) (i:Nat) (t:List UInt8) (ns:List (Rn × Value)) (a:Option Addr) (cp:Nat) (wr:World):Prop where
 spec:zd6 (ps.map Prod.fst) []=ns.map Prod.fst++zd6 ((ps.map Prod.fst).drop i) t
 small:t.length≤zc2 (ps.take i)
 count:ns.length≤2*i
 own:MOwn K w ns a cp wr
def zxf:List RPt→List Rn
 | []=>[]
 | p::r=>p.node::zd6 r []
set_option maxRecDepth 100000 in
set_option maxHeartbeats 8000000 in
theorem zng (K:Nat→Prop) (a:Option Addr) (cap:Nat) (ps:List (RPt × Value)) (w:World) (hrow:PRow w a ps) (hkid:∀ (i:Nat) (p:RPt × Value),ps[i]?=some p→RepN w K p.2 p.1.node.kids) (hK:∀ x,K x→x<w.heap.size) (hlen:ps.length≤4000000) (htx:zc2 ps≤4000000) :
  Calls Tryz.prog 191 #[.slice a ps.length cap] w fun e w'=>∃ v,e = .returned v∧RepN w' (fun x=>K x∨(w.heap.size≤x∧x<w'.heap.size)) v (zd6 (ps.map Prod.fst) [])∧Below w.heap.size w w':=by
 obtain ⟨i0,hi',hi0,hi1,hi2⟩:=info_parts Tryz.zla
 have hrowH:=hid hrow
 have hkidH:=hid hkid
 have hKH:=hid hK
 have htxH:=hid htx
 clear hrow hkid hK htx
 go_enter Tryz.func191,Tryz.ntmps191
 go_upto_region 4 with fail
 go_loopw [3,4,5,6] (fun ov tv iv _ wr=>∃ (i n':Nat) (t:List UInt8) (a':Option Addr) (cp:Nat),i≤ps.length+1∧iv = .int .i64 i∧tv = .string (S.B t)∧ov = .slice a' n' cp∧t.length≤4000000∧Hid (∃ ns,n'=ns.length∧((i≤ps.length∧MRel K w ps i t ns a' cp wr)∨(i=ps.length+1∧zd6 (ps.map Prod.fst) []=ns.map Prod.fst∧MOwn K w ns a' cp wr)))) (fun _ _ iv _ _=>ps.length+2-(intOf iv).toNat)
 case atStart=>exact ⟨0,0,[],none,0,by omega,rfl,rfl,rfl,by simp,hid ⟨[],rfl,.inl ⟨Nat.zero_le _,⟨rfl,Nat.zero_le _,Nat.zero_le _,World.ownsRow_nil _ _ _ _,fun j q h=>by simp at h,Below.refl _ _⟩⟩⟩⟩
 case round=>
  obtain ⟨i,n',t,a',cp,hi,rfl,rfl,rfl,htl,hr⟩:=hrel
  by_cases hie:i=ps.length+1
  ·subst hie
   have hJ:¬ ((ps.length+1:Nat):Int)≤(ps.length:Int):=by omega
   go_wp2
   go_ret
   obtain ⟨ns,rfl,h|⟨_,h1,h2⟩⟩:=hr.out
   ·omega
   ·refine ⟨_,rfl,?_,h2.below⟩
    rw[h1]
    exact zgw h2.own (fun g hg=>.inr (h2.own.lt g hg)) (fun j q hq=>(h2.kids j q hq).move (fun x hx=>.inl hx) (fun _ _=>rfl))
  ·have hil:i≤ps.length:=by omega
   have hJ:(i:Int)≤(ps.length:Int):=by omega
   have hR:Hid (∃ ns,n'=ns.length∧MRel K w ps i t ns a' cp wr):=hid (by
    obtain ⟨ns,h0,h|⟨h,_⟩⟩:=hr.out
    ·exact ⟨ns,h0,h.2⟩
    ·exact absurd h hie)
   clear hr hi hie
   by_cases hA:∃ p,ps[i]?=some p∧p.1.what≠1
   ·obtain ⟨p,hp,hw1⟩:=hA
    have hlt:i<ps.length:=(List.getElem?_eq_some_iff.1 hp).1
    obtain ⟨b,o,rfl,hbw,hcell⟩:∃ b o,a=some ⟨b,o,none⟩∧b<w.heap.size∧∀ (i:Nat) (p:RPt × Value),ps[i]?=some p→∀ j u,(pt16 p.1 p.2)[j]?=some u→w.cell? ⟨b,o+i*16+j,none⟩=some u:=by
     rcases hrowH.out with h|h
     ·subst h;simp at hp
     ·exact h
    have hbr:Below w.heap.size w wr:=by obtain ⟨ns,_,h⟩:=hR.out;exact h.own.below
    have hcr:∀ wx,Below w.heap.size w wx→∀ j u,(pt16 p.1 p.2)[j]?=some u→wx.cell? ⟨b,o+i*16+j,none⟩=some u:=fun wx hx j u hu=>(hx.cell (p:=⟨b,o+i*16+j,none⟩) hbw).trans (hcell i p hp j u hu)
    have c0:wr.cell? ⟨b,o+i*16,none⟩=some (.int .i64 p.1.what):=hcr wr hbr 0 _ rfl
    have c1:wr.cell? ⟨b,o+i*16+1,none⟩=some (.string (S.B p.1.s)):=hcr wr hbr 1 _ rfl
    have hcrH:=hid hcr
    have hbrH:=hid hbr
    have hJ1:(i:Int)<(ps.length:Int):=by omega
    have hJ0:(0:Int)≤(i:Int):=by omega
    have hwb:((p.1.what:Int) == 1)=false:=by rw[beq_eq_false_iff_ne];exact hw1
    have hpl:=ze1 ps (i+1)
    rw[zh9 ps i p hp] at hpl
    have htl2:t.length+(p.1.s.length+p.1.left)≤4000000:=by
     obtain ⟨ns,_,h⟩:=hR.out
     have:=h.small
     have:=htxH.out
     omega
    have hpH:=hid hp
    have hw1H:=hid hw1
    have hcc1:Op.stringOp .add (S.B t) (S.B p.1.s)=pure (.string (S.B (t++p.1.s))):=by
     rw[zmm _ _ (by rw[S.zbc,S.zbc];omega),zz6]
    have hplH:=hid hpl
    clear hp hw1 hcell hcr hbr hpl
    have hstepA:Hid (∀ wx,(∃ ns,n'=ns.length∧MRel K w ps i t ns a' cp wx)→∃ ns,n'=ns.length∧MRel K w ps (i+1) (t++p.1.s++List.replicate p.1.left p.1.c) ns a' cp wx):=hid (fun wx h=>by
     obtain ⟨ns,h0,h⟩:=h
     have hd:(ps.map Prod.fst).drop i=p.1::(ps.map Prod.fst).drop (i+1):=by
      have h1:(ps.map Prod.fst)[i]?=some p.1:=by rw[List.getElem?_map,hpH.out];rfl
      obtain ⟨h2,h3⟩:=List.getElem?_eq_some_iff.1 h1
      rw[List.drop_eq_getElem_cons h2,h3]
     refine ⟨ns,h0,?_,?_,by have:=h.count;omega,h.own⟩
     ·rw[h.spec,hd]
      simp only[zd6]
      rw[if_neg hw1H.out]
     ·rw[zh9 ps i p hpH.out,List.length_append,List.length_append,List.length_replicate]
      have:=h.small
      omega)
    have hKp:∀ x,K x→x<w.heap.size:=hKH.out
    obtain ⟨pl,hpl9⟩:∃ pl,p.1.left=pl:=⟨_,rfl⟩
    obtain ⟨pc,hpc9⟩:∃ pc,p.1.c=pc:=⟨_,rfl⟩
    obtain ⟨T0,hT0⟩:∃ T0,t++p.1.s=T0:=⟨_,rfl⟩
    have hT0l:T0.length+pl≤4000000:=by rw[← hT0,List.length_append];omega
    rw[hpl9,hpc9,hT0] at hstepA
    rw[hT0] at hcc1
    have hC11:Hid (∀ wx,(∃ ns,n'=ns.length∧MRel K w ps i t ns a' cp wx)→wx.cell? ⟨b,o+i*16+11,none⟩=some (.int .i64 (pl:Nat))∧wx.cell? ⟨b,o+i*16+9,none⟩=some (.int .u8 (pc.toNat:Int))∧b<wx.heap.size):=hid (fun wx h=>by
     obtain ⟨ns,h0,h⟩:=h
     have hb:=h.own.below
     exact ⟨by rw[← hpl9];exact hcrH.out wx hb 11 _ rfl,by rw[← hpc9];exact hcrH.out wx hb 9 _ rfl,Nat.lt_of_lt_of_le hbw hb.size⟩)
    have hKpH:=hid hKp
    clear hpl9 hpc9 hT0 hKp hplH htl2
    go_upto_region 9 with fail
    clear c0 c1 hcc1
    go_loopw [4,6] (fun tv kv wx=>∃ k:Nat,k≤pl∧kv = .int .i64 k∧tv = .string (S.B (T0++List.replicate k pc))∧Hid (∃ ns,n'=ns.length∧MRel K w ps i t ns a' cp wx)) (fun _ kv _=>pl-(intOf kv).toNat)
    case atStart=>exact ⟨0,Nat.zero_le _,rfl,by simp,hR⟩
    case round=>
     obtain ⟨k,hk,rfl,rfl,hR2⟩:=hrel
     obtain ⟨c11,c9,hbr2⟩:=hC11.out _ hR2.out
     by_cases hkl:k<pl
     ·have hJk:(k:Int)<(pl:Int):=by omega
      have hcv:=z0t pc wr
      have hcc:Op.stringOp .add (S.B (T0++List.replicate k pc)) ⟨#[pc]⟩=pure (.string (S.B (T0++List.replicate (k+1) pc))):=by
       rw[zmm _ _ (by rw[S.zbc,List.length_append,List.length_replicate];show T0.length+k+1≤_;omega)]
       rw[show (⟨#[pc]⟩:ByteArray)=S.B [pc] from rfl,zz6,List.append_assoc,List.replicate_succ']
      have hR3:Hid (∀ ob,∃ ns,n'=ns.length∧MRel K w ps i t ns a' cp (wr.alloc ob)):=hid (fun ob=>by
       obtain ⟨ns,h0,h⟩:=hR2.out
       exact ⟨ns,h0,h.spec,h.small,h.count,h.own.after hKpH.out ((Below.refl _ _).alloc (Nat.le_refl _) ob)⟩)
      go_wp2
      go_roundw
      case rel=>exact ⟨k+1,by omega,by go_num,rfl,hid (hR3.out _)⟩
      case measure=>simp[intOf];omega
     ·have hke:k=pl:=by omega
      subst hke
      have hJk:¬ (k:Int)<(k:Int):=by omega
      have hR3:=hid (hstepA.out _ hR2.out)
      clear hstepA
      go_wp2
      go_roundw
      case rel=>exact ⟨i+1,n',_,a',cp,by omega,by go_num,rfl,rfl,by rw[List.length_append,List.length_replicate];omega,hid (by obtain ⟨ns,h0,h⟩:=hR3.out;exact ⟨ns,h0,.inl ⟨by omega,h⟩⟩)⟩
      case measure=>simp[intOf];omega
   ·obtain ⟨Tl,hTl⟩:∃ Tl,zxf ((ps.map Prod.fst).drop i)=Tl:=⟨_,rfl⟩
    have hsp:Hid (∀ u,zd6 ((ps.map Prod.fst).drop i) u=zhh u++Tl):=hid (fun u=>by
     rw[← hTl]
     cases hp:ps[i]? with
     | none=>
      rw[List.drop_eq_nil_of_le (by rw[List.length_map];exact List.getElem?_eq_none_iff.1 hp)]
      simp[zd6,zxf]
     | some p=>
      have h1:(ps.map Prod.fst)[i]?=some p.1:=by rw[List.getElem?_map,hp];rfl
      obtain ⟨h2,h3⟩:=List.getElem?_eq_some_iff.1 h1
      rw[List.drop_eq_getElem_cons h2,h3]
      simp only[zd6,zxf]
      rw[if_pos (by
       cases Decidable.em (p.1.what=1) with
       | inl h=>exact h
       | inr h=>exact absurd ⟨p,hp,h⟩ hA)])
    have hcellA:Hid (∀ p,ps[i]?=some p→p.1.what=1∧∃ b o,a=some ⟨b,o,none⟩∧b<w.heap.size∧∀ wx,Below w.heap.size w wx→∀ j u,(pt16 p.1 p.2)[j]?=some u→wx.cell? ⟨b,o+i*16+j,none⟩=some u):=hid (fun p hp=>by
     refine ⟨by
      cases Decidable.em (p.1.what=1) with
      | inl h=>exact h
      | inr h=>exact absurd ⟨p,hp,h⟩ hA,?_⟩
     rcases hrowH.out with h|⟨b,o,h1,h2,h3⟩
     ·subst h;simp at hp
     ·exact ⟨b,o,h1,h2,fun wx hx j u hu=>(hx.cell (p:=⟨b,o+i*16+j,none⟩) h2).trans (h3 i p hp j u hu)⟩)
    have hTlH:=hid hTl
    clear hTl hA hrowH
    go_upto_region 6 with fail
    go_cut [24] (fun s24 wx=>s24 = .bool false∧wr=wx)
    case first=>
     by_cases hlt:i<ps.length
     ·obtain ⟨p,hp⟩:∃ p,ps[i]?=some p:=⟨ps[i],List.getElem?_eq_getElem hlt⟩
      obtain ⟨hw1,b,o,rfl,hbw,hcr⟩:=hcellA.out p hp
      have hbr:Below w.heap.size w wr:=by obtain ⟨ns,_,h⟩:=hR.out;exact h.own.below
      have c0:wr.cell? ⟨b,o+i*16,none⟩=some (.int .i64 p.1.what):=hcr wr hbr 0 _ rfl
      rw[hw1] at c0
      have hbr2:b<wr.heap.size:=Nat.lt_of_lt_of_le hbw hbr.size
      have hJ1:(i:Int)<(ps.length:Int):=by omega
      have hJ0:(0:Int)≤(i:Int):=by omega
      clear hp hw1 hcr hbr
      go_wp2
      go_meet
      exact ⟨rfl,rfl⟩
     ·have hJ1:¬ (i:Int)<(ps.length:Int):=by omega
      go_wp2
      go_meet
      exact ⟨rfl,rfl⟩
    case rest=>
    obtain ⟨rfl,rfl⟩:=hcut
    have hKp:Hid (∀ x,K x→x<w.heap.size):=hKH
    go_upto_region 12 with fail
    go_cut [51] (fun s51 wx=>s51 = .bool (decide (t≠[]))∧wr=wx)
    case first=>
     by_cases ht:t=[]
     ·subst ht
      rw[show S.B ([]:List UInt8)=⟨#[]⟩ from rfl]
      go_wp2
      go_meet
      exact ⟨rfl,rfl⟩
     ·have hpos:0<(S.B t).size:=by rw[S.zbc];exact List.length_pos_iff.2 ht
      have hTn:=S.zbl _ hpos
      have hTe:=S.zb2 _ hpos
      have hd:Hid (decide (t≠[])=true):=hid (by simpa using ht)
      go_wp2
      go_meet
      exact ⟨by rw[hd.out],rfl⟩
    case rest=>
    obtain ⟨rfl,rfl⟩:=hcut
    go_upto_if 51 with fail
    go_cut [3,4] (fun s3 s4 wx=>∃ (n2:Nat) (a2:Option Addr) (cp2:Nat),s4 = .string ⟨#[]⟩∧s3 = .slice a2 n2 cp2∧Hid (∃ ns,n2=ns.length∧zd6 (ps.map Prod.fst) []=ns.map Prod.fst++Tl∧ns.length≤2*i+1∧MOwn K w ns a2 cp2 wx))
    case first=>
     by_cases ht:t=[]
     ·subst ht
      rw[show S.B ([]:List UInt8)=⟨#[]⟩ from rfl,show decide (([]:List UInt8)≠[])=false from rfl]
      go_wp2
      go_meet
      refine ⟨n',a',cp,rfl,rfl,hid ?_⟩
      obtain ⟨ns,h0,h⟩:=hR.out
      exact ⟨ns,h0,by rw[h.spec,hsp.out];rfl,by have:=h.count;omega,h.own⟩
     ·have hpos:0<(S.B t).size:=by rw[S.zbc];exact List.length_pos_iff.2 ht
      have hTn:=S.zbl _ hpos
      have hTe:=S.zb2 _ hpos
      obtain ⟨T,hT⟩:∃ T,S.B t=T:=⟨_,rfl⟩
      rw[hT] at hTn hTe hpos ⊢
      rw[show decide (t≠[])=true by simpa using ht]
      obtain ⟨ns,hn',hM⟩:=hR.out
      subst hn'
      have hown2:Hid (∀ ob,(wr.alloc ob).ownsRow w.heap.size 118 7 (.slice a' ns.length cp) ns.length (zc6 ns)):=hid (fun ob=>hM.own.own.alloc ob)
      have hnew:Hid (∀ j v,([.int .i64 0,.int .i64 8,.int .i64 0,.string ⟨#[]⟩,.string T,.int .i64 0,.slice none 0 0]:List Value)[j]?=some v→(wr.alloc (.cells #[.int .i64 0,.int .i64 8,.int .i64 0,.string ⟨#[]⟩,.string T,.int .i64 0,.slice none 0 0] 118)).cell? ((⟨wr.heap.size,0,none⟩:Addr).add j)=some v):=hid (fun j v hj=>World.news_of_block (za1 _ _) j v (by exact hj))
      have hone:Hid (∀ v∈([.int .i64 0,.int .i64 8,.int .i64 0,.string ⟨#[]⟩,.string T,.int .i64 0,.slice none 0 0]:List Value),v.oneCell'=true):=hid (by
       intro v hv;simp at hv;rcases hv with rfl|rfl|rfl|rfl|rfl|rfl|rfl <;> rfl)
      have hstep:Hid (∀ ob g' cap1 w2,w2.ownsRow w.heap.size 118 7 (.slice (some ⟨g',0,none⟩) (ns.length+1) cap1) (ns.length+1) (zc6 ns++[.int .i64 0,.int .i64 8,.int .i64 0,.string ⟨#[]⟩,.string T,.int .i64 0,.slice none 0 0])→(wr.alloc ob).grownBy w2 (Value.slice a' ns.length cp).ownBlock→∃ ns2,ns.length+1=ns2.length∧zd6 (ps.map Prod.fst) []=ns2.map Prod.fst++Tl∧ns2.length≤2*i+1∧MOwn K w ns2 (some ⟨g',0,none⟩) cap1 w2):=hid (fun ob g' cap1 w2 ho hgw=>by
       refine ⟨ns++[(.nd 8 0 [] t 0 [],.slice none 0 0)],by simp,?_,by have:=hM.count;simp;omega,?_⟩
       ·rw[hM.spec,hsp.out,List.map_append,List.append_assoc]
        unfold zhh
        rw[if_neg ht];rfl
       ·refine hM.own.step hKp.out .nil ?_ hgw
        subst hT
        exact ho)
      have hwsz:w.heap.size≤wr.heap.size:=hM.own.below.size
      have hcnt:ns.length+1≤8000001:=by have:=hM.count;omega
      clear hM hT ht
      go_wp2_with (at_builtin;refine wpList_append_lies _ (by rfl) _ _ 80 (by rfl) w.heap.size 118 i0 (.agg #[.int .i64 0,.int .i64 0,.int .i64 0,.string ⟨#[]⟩,.string ⟨#[]⟩,.int .i64 0,.slice none 0 0]) 7 88 Tryz.underlying80 hi' hi0 hi1 hi2 (by rfl) (by omega) (.slice a' ns.length cp) ns.length (zc6 ns) (by rfl) (hown2.out _) ⟨wr.heap.size,0,none⟩ 1 1 [.int .i64 0,.int .i64 8,.int .i64 0,.string ⟨#[]⟩,.string T,.int .i64 0,.slice none 0 0] (by rfl) (by rfl) hnew.out hone.out (by omega) (by unfold maxLen;omega) (by omega) (by simp;omega) (wr.heap.size+1) (by simp) ?_)
      intro g' cap1 w2 hown1 hgrow hat hltg
      have hR4:=hid (hstep.out _ g' cap1 w2 hown1 hgrow)
      clear hown1 hgrow hat hltg
      go_wp2
      go_meet
      exact ⟨ns.length+1,some ⟨g',0,none⟩,cap1,rfl,rfl,hR4⟩
    case rest=>
    obtain ⟨n2,a2,cp2,rfl,rfl,hR2⟩:=hcut
    clear hR hsp
    by_cases hlt:i<ps.length
    ·obtain ⟨p,hp⟩:∃ p,ps[i]?=some p:=⟨ps[i],List.getElem?_eq_getElem hlt⟩
     obtain ⟨hw1,b,o,rfl,hbw,hcr⟩:=hcellA.out p hp
     obtain ⟨ns,hn2,hM1,hM2,hM⟩:=hR2.out
     subst hn2
     have hkp:=hkidH.out i p hp
     obtain ⟨ka,kn,kc,hkv⟩:=hkp.form
     have hbr:=hM.below
     have c2:wc.cell? ⟨b,o+i*16+2,none⟩=some (.int .i64 0):=hcr wc hbr 2 _ rfl
     have c3:wc.cell? ⟨b,o+i*16+3,none⟩=some (.int .i64 p.1.node.kind):=hcr wc hbr 3 _ rfl
     have c4:wc.cell? ⟨b,o+i*16+4,none⟩=some (.int .i64 p.1.node.n):=hcr wc hbr 4 _ rfl
     have c5:wc.cell? ⟨b,o+i*16+5,none⟩=some (.string (S.B p.1.node.info)):=hcr wc hbr 5 _ rfl
     have c6:wc.cell? ⟨b,o+i*16+6,none⟩=some (.string (S.B p.1.node.text)):=hcr wc hbr 6 _ rfl
     have c7:wc.cell? ⟨b,o+i*16+7,none⟩=some (.int .i64 p.1.node.line):=hcr wc hbr 7 _ rfl
     have c8:wc.cell? ⟨b,o+i*16+8,none⟩=some (.slice ka kn kc):=by rw[← hkv];exact hcr wc hbr 8 _ rfl
     obtain ⟨nk,hnk⟩:∃ x,p.1.node.kind=x:=⟨_,rfl⟩
     obtain ⟨nn,hnn⟩:∃ x,p.1.node.n=x:=⟨_,rfl⟩
     obtain ⟨nf,hnf⟩:∃ x,S.B p.1.node.info=x:=⟨_,rfl⟩
     obtain ⟨nt,hnt⟩:∃ x,S.B p.1.node.text=x:=⟨_,rfl⟩
     obtain ⟨nl,hnl⟩:∃ x,p.1.node.line=x:=⟨_,rfl⟩
     rw[hnk] at c3
     rw[hnn] at c4
     rw[hnf] at c5
     rw[hnt] at c6
     rw[hnl] at c7
     have hbr2:b<wc.heap.size:=Nat.lt_of_lt_of_le hbw hbr.size
     have hwsz:w.heap.size≤wc.heap.size:=hbr.size
     have hJ1:(i:Int)<(ps.length:Int):=by omega
     have hJ0:(0:Int)≤(i:Int):=by omega
     have hcnt:ns.length+1≤8000003:=by omega
     have hown2:Hid (∀ ob,(wc.alloc ob).ownsRow w.heap.size 118 7 (.slice a2 ns.length cp2) ns.length (zc6 ns)):=hid (fun ob=>hM.own.alloc ob)
     have hnew:Hid (∀ j v,([.int .i64 0,.int .i64 nk,.int .i64 nn,.string nf,.string nt,.int .i64 nl,.slice ka kn kc]:List Value)[j]?=some v→(wc.alloc (.cells #[.int .i64 0,.int .i64 nk,.int .i64 nn,.string nf,.string nt,.int .i64 nl,.slice ka kn kc] 118)).cell? ((⟨wc.heap.size,0,none⟩:Addr).add j)=some v):=hid (fun j v hj=>World.news_of_block (za1 _ _) j v (by exact hj))
     have hone:Hid (∀ v∈([.int .i64 0,.int .i64 nk,.int .i64 nn,.string nf,.string nt,.int .i64 nl,.slice ka kn kc]:List Value),v.oneCell'=true):=hid (by
      intro v hv;simp at hv;rcases hv with rfl|rfl|rfl|rfl|rfl|rfl|rfl <;> rfl)
     have hstep:Hid (∀ ob g' cap1 w2,w2.ownsRow w.heap.size 118 7 (.slice (some ⟨g',0,none⟩) (ns.length+1) cap1) (ns.length+1) (zc6 ns++[.int .i64 0,.int .i64 nk,.int .i64 nn,.string nf,.string nt,.int .i64 nl,.slice ka kn kc])→(wc.alloc ob).grownBy w2 (Value.slice a2 ns.length cp2).ownBlock→∃ ns2,ns.length+1=ns2.length∧MRel K w ps (i+1) [] ns2 (some ⟨g',0,none⟩) cap1 w2):=hid (fun ob g' cap1 w2 ho hgw=>by
      refine ⟨ns++[(p.1.node,.slice ka kn kc)],by simp,?_,Nat.zero_le _,by simp;omega,?_⟩
      ·rw[hM1,← hTlH.out,List.map_append,List.append_assoc]
       have h1:(ps.map Prod.fst)[i]?=some p.1:=by rw[List.getElem?_map,hp];rfl
       obtain ⟨h2,h3⟩:=List.getElem?_eq_some_iff.1 h1
       rw[List.drop_eq_getElem_cons h2,h3];rfl
      ·refine hM.step hKp.out ?_ ?_ hgw
       ·rw[← hkv]
        exact hkp.move (fun x hx=>hx) (fun x hx=>hbr.block x (hKp.out x hx))
       ·subst hnk hnn hnf hnt hnl
        exact ho)
     clear hp hw1 hcr hkp hkv hM1 hM2 hM hbr hnk hnn hnf hnt hnl
     go_wp2_with (at_builtin;refine wpList_append_lies _ (by rfl) _ _ 80 (by rfl) w.heap.size 118 i0 (.agg #[.int .i64 0,.int .i64 0,.int .i64 0,.string ⟨#[]⟩,.string ⟨#[]⟩,.int .i64 0,.slice none 0 0]) 7 88 Tryz.underlying80 hi' hi0 hi1 hi2 (by rfl) (by omega) (.slice a2 ns.length cp2) ns.length (zc6 ns) (by rfl) (hown2.out _) ⟨wc.heap.size,0,none⟩ 1 1 [.int .i64 0,.int .i64 nk,.int .i64 nn,.string nf,.string nt,.int .i64 nl,.slice ka kn kc] (by rfl) (by rfl) hnew.out hone.out (by omega) (by unfold maxLen;omega) (by omega) (by simp;omega) (wc.heap.size+1) (by simp) ?_)
     intro g' cap1 w2 hown1 hgrow hat hltg
     have hR4:=hid (hstep.out _ g' cap1 w2 hown1 hgrow)
     clear hown1 hgrow hat hltg
     go_wp2
     go_roundw
     case rel=>exact ⟨i+1,ns.length+1,[],some ⟨g',0,none⟩,cap1,by omega,by go_num,rfl,rfl,by simp,hid (by obtain ⟨ns2,h0,h⟩:=hR4.out;exact ⟨ns2,h0,.inl ⟨by omega,h⟩⟩)⟩
     case measure=>simp[intOf];omega
    ·have hie:i=ps.length:=by omega
     have hJ1:¬ (i:Int)<(ps.length:Int):=by omega
     have hR4:Hid (∃ ns,n2=ns.length∧zd6 (ps.map Prod.fst) []=ns.map Prod.fst∧MOwn K w ns a2 cp2 wc):=hid (by
      obtain ⟨ns,h0,h1,h2,h3⟩:=hR2.out
      refine ⟨ns,h0,?_,h3⟩
      rw[h1,← hTlH.out,List.drop_eq_nil_of_le (by rw[List.length_map];omega)]
      simp[zxf])
     clear hR2
     go_wp2
     go_roundw
     case rel=>exact ⟨i+1,n2,[],a2,cp2,by omega,by go_num,rfl,rfl,by simp,hid (by obtain ⟨ns,h0,h1,h2⟩:=hR4.out;exact ⟨ns,h0,.inr ⟨by omega,h1,h2⟩⟩)⟩
     case measure=>simp[intOf];omega
theorem Tryz.zm7:(Tryz.prog.info? 196).map (fun i=>(i.zero,i.size,i.bytes))=some (some (.agg #[.int .i64 0,.string ⟨#[]⟩,.int .i64 0,.int .i64 0,.int .i64 0,.string ⟨#[]⟩,.string ⟨#[]⟩,.int .i64 0,.slice none 0 0,.int .u8 0,.int .i64 0,.int .i64 0,.bool false,.bool false,.bool false,.bool false]),16,144):=by kernel_rfl
def za9 (ps:List (RPt × Value)):List Value:=(ps.map (fun p=>pt16 p.1 p.2)).flatten
theorem zhd (a b:List (RPt × Value)):za9 (a++b)=za9 a++za9 b:=by simp[za9]
theorem zdp (p:RPt × Value) (r:List (RPt × Value)):za9 (p::r)=pt16 p.1 p.2++za9 r:=by simp[za9]
theorem zes (p:RPt) (v:Value):(pt16 p v).length=16:=rfl
theorem zbz (ps:List (RPt × Value)):(za9 ps).length=ps.length*16:=by
 induction ps with
 | nil=>rfl
 | cons p r ih=>rw[zdp,List.length_append,zes,ih,List.length_cons];omega
theorem zhp (ps:List (RPt × Value)) (i j:Nat) (p:RPt × Value) (h:ps[i]?=some p) (hj:j<16):(za9 ps)[16*i+j]?=(pt16 p.1 p.2)[j]?:=by
 induction ps generalizing i with
 | nil=>simp at h
 | cons q r ih=>
  rw[zdp]
  cases i with
  | zero=>
   simp at h;subst h
   rw[List.getElem?_append_left (by rw[zes];omega)];simp
  | succ i=>
   rw[List.getElem?_append_right (by rw[zes];omega),zes,← ih i (by simpa using h)]
   congr 1;omega
theorem zsf (ps:List (RPt × Value)) (i j:Nat) (p q:RPt × Value) (u:Value) (h:ps[i]?=some p) (hq:pt16 q.1 q.2=(pt16 p.1 p.2).set j u) (hj:j<16):za9 (ps.set i q)=(za9 ps).set (16*i+j) u:=by
 induction ps generalizing i with
 | nil=>simp at h
 | cons x r ih=>
  cases i with
  | zero=>
   simp at h;subst h
   rw[List.set_cons_zero,zdp,zdp,hq,List.set_append_left _ _ (by rw[zes];omega)]
   simp
  | succ i=>
   rw[List.set_cons_succ,zdp,zdp,ih i (by simpa using h),List.set_append_right _ _ (by rw[zes];omega),zes]
   congr 2;omega
theorem zd8 (a b:List (RPt × Value)):zc2 (a++b)=zc2 a+zc2 b:=by simp[zc2]
theorem zea (p:RPt × Value) (r:List (RPt × Value)):zc2 (p::r)=p.1.s.length+p.1.left+zc2 r:=by simp[zc2]
theorem PRow.news {w:World} {b o:Nat} {ps:List (RPt × Value)} (hc:∀ (i:Nat) (p:RPt × Value),ps[i]?=some p→∀ j u,(pt16 p.1 p.2)[j]?=some u→w.cell? ⟨b,o+i*16+j,none⟩=some u) (jj:Nat) (u:Value) (h:(za9 ps)[jj]?=some u):w.cell? ((⟨b,o,none⟩:Addr).add jj)=some u:=by
 have hl:=(List.getElem?_eq_some_iff.1 h).1
 rw[zbz] at hl
 have hi:jj / 16<ps.length:=by omega
 have hp:ps[jj / 16]?=some ps[jj / 16]:=List.getElem?_eq_getElem hi
 have hg:=zhp ps (jj / 16) (jj % 16) _ hp (by omega)
 rw[show 16*(jj / 16)+jj % 16=jj by omega,h] at hg
 have:=hc _ _ hp _ _ hg.symm
 have ha:(⟨b,o,none⟩:Addr).add jj=⟨b,o+jj / 16*16+jj % 16,none⟩:=by
  simp only[Addr.add];split
  ·rename_i h;simp <;> omega
  ·simp <;> omega
 rw[ha];exact this
theorem PRow.below {w wx:World} {a:Option Addr} {ps:List (RPt × Value)} (h:PRow w a ps) (hb:Below w.heap.size w wx):PRow wx a ps:=by
 rcases h with h|⟨b,o,h1,h2,h3⟩
 ·exact .inl h
 ·exact .inr ⟨b,o,h1,Nat.lt_of_lt_of_le h2 hb.size,fun i p hi j u hu=>(hb.cell (p:=⟨b,o+i*16+j,none⟩) h2).trans (h3 i p hi j u hu)⟩
structure POwn (D:Nat→Prop) (B:Nat) (qs:List (RPt × Value)) (v:Value) (wr:World):Prop where
 own:wr.ownsRow B 196 16 v qs.length (za9 qs)
 kids:∀ (i:Nat) (q:RPt × Value),qs[i]?=some q→RepN wr (fun x=>D x∧x<wr.heap.size∧some x≠v.ownBlock) q.2 q.1.node.kids
theorem POwn.nil (D:Nat→Prop) (B:Nat) (w:World):POwn D B [] (.slice none 0 0) w:=⟨World.ownsRow_nil _ _ _ _,fun i q h=>by simp at h⟩
theorem POwn.row {D:Nat→Prop} {B:Nat} {qs:List (RPt × Value)} {a:Option Addr} {n cap:Nat} {wr:World} (h:POwn D B qs (.slice a n cap) wr):PRow wr a qs:=by
 rcases h.own.2 with ⟨h1,h2⟩|⟨g,cap',cur,h1,h2,h3,h4,h5,h6,h7⟩
 ·exact .inl (List.eq_nil_of_length_eq_zero h2)
 ·injection h1 with e1 e2 e3
  subst e1
  refine .inr ⟨g,0,rfl,(Array.getElem?_eq_some_iff.1 h3).1,fun i q hi j u hu=>?_⟩
  have hj:j<16:=by have:=(List.getElem?_eq_some_iff.1 hu).1;rw[zes] at this;exact this
  have hx:=zhp qs i j q hi hj
  rw[hu] at hx
  have:=h.own.cells (g:=g) rfl (16*i+j) u hx
  have ha:(⟨g,0,none⟩:Addr).add (16*i+j)=⟨g,0+i*16+j,none⟩:=by
   simp only[Addr.add];split
   ·rename_i h;simp <;> omega
   ·simp <;> omega
  rw[← ha];exact this
theorem POwn.after {D:Nat→Prop} {B:Nat} {qs:List (RPt × Value)} {v:Value} {wr wx:World} (h:POwn D B qs v wr) (hb:Below wr.heap.size wr wx):POwn D B qs v wx:=
 ⟨zej h.own (fun x _ hx2=>hb.block x hx2),fun i q hi=>(h.kids i q hi).move (fun _ hx=>⟨hx.1,Nat.lt_of_lt_of_le hx.2.1 hb.size,hx.2.2⟩) (fun x hx=>hb.block x hx.2.1)⟩
theorem POwn.many {D:Nat→Prop} {B:Nat} {qs rs:List (RPt × Value)} {v:Value} {w1 w2:World} {g cap1:Nat} (h:POwn D B qs v w1) (hrep:∀ (i:Nat) (q:RPt × Value),rs[i]?=some q→RepN w1 (fun x=>D x∧x<w1.heap.size∧some x≠v.ownBlock) q.2 q.1.node.kids)
  (ho:w2.ownsRow B 196 16 (.slice (some ⟨g,0,none⟩) (qs.length+rs.length) cap1) (qs.length+rs.length) (za9 qs++za9 rs)) (hg:w1.grownBy w2 v.ownBlock) (hat:v.ownBlock=some g∨w1.heap.size≤g):POwn D B (qs++rs) (.slice (some ⟨g,0,none⟩) (qs++rs).length cap1) w2:=by
 have hs:=hg.size
 have hmv:∀ x,(D x∧x<w1.heap.size∧some x≠v.ownBlock)→(D x∧x<w2.heap.size∧some x≠(Value.slice (some ⟨g,0,none⟩) (qs++rs).length cap1).ownBlock):=fun x hx=>⟨hx.1,by omega,by
  show some x≠some g
  rcases hat with e|e
  ·rw[← e];exact hx.2.2
  ·intro e2;cases e2;omega⟩
 have hbl:∀ x,(D x∧x<w1.heap.size∧some x≠v.ownBlock)→w2.heap[x]?=w1.heap[x]?:=fun x hx=>hg.block x hx.2.1 hx.2.2
 refine ⟨by rw[zhd,List.length_append];exact ho,fun i q hi=>?_⟩
 by_cases hil:i<qs.length
 ·rw[List.getElem?_append_left hil] at hi
  exact (h.kids i q hi).move hmv hbl
 ·rw[List.getElem?_append_right (by omega)] at hi
  exact (hrep _ q hi).move hmv hbl
theorem POwn.set {D:Nat→Prop} {B:Nat} {qs:List (RPt × Value)} {g n cap:Nat} {wr:World} (h:POwn D B qs (.slice (some ⟨g,0,none⟩) n cap) wr) (i j:Nat) (q q':RPt × Value) (u:Value) (hi:qs[i]?=some q) (hj:j<16) (hq:pt16 q'.1 q'.2=(pt16 q.1 q.2).set j u) (hn:q'.1.node=q.1.node) (hv:q'.2=q.2) :
  POwn D B (qs.set i q') (.slice (some ⟨g,0,none⟩) n cap) (wr.setCell ⟨g,i*16+j,none⟩ u)∧wr.cell? ⟨g,i*16+j,none⟩=(pt16 q.1 q.2)[j]?∧wr.frozen? ⟨g,i*16+j,none⟩=false∧(∀ B',B'≤g→∀ w0,Below B' w0 wr→Below B' w0 (wr.setCell ⟨g,i*16+j,none⟩ u)):=by
 have hil:=(List.getElem?_eq_some_iff.1 hi).1
 rcases h.own.2 with ⟨h1,h2⟩|⟨g',cap',cur,h1,h2,h3,h4,h5,h6,h7⟩
 ·cases h1
 ·injection h1 with e1 e2 e3
  injection e1 with e1
  injection e1 with e1
  subst e1
  have hx:wr.heap[g]?=some (.cells cur.toList.toArray 196 (0,0)):=h3
  have hset:=za3 hx (i*16+j) u
  have hlc:(za9 qs)[16*i+j]?=(pt16 q.1 q.2)[j]?:=zhp qs i j q hi hj
  have hlt:i*16+j<qs.length*16:=by omega
  refine ⟨⟨⟨?_,.inr ⟨g,cap',(cur.toList.set (i*16+j) u).toArray,?_,h2,hset,?_,h5,?_,?_⟩⟩,?_⟩,?_,?_,?_⟩
  ·rw[zbz,List.length_set]
  ·rw[List.length_set,e2,e3]
  ·rw[List.length_set];exact h4
  ·simpa using h6
  ·rw[List.length_set,zsf qs i j q q' u hi hq hj,← h7]
   rw[show 16*i+j=i*16+j by omega]
   simp[List.take_set]
  ·intro k r hk
   have hbl:∀ x,(D x∧x<wr.heap.size∧some x≠(Value.slice (some ⟨g,0,none⟩) n cap).ownBlock)→(wr.setCell ⟨g,i*16+j,none⟩ u).heap[x]?=wr.heap[x]?:=fun x hx=>Below.heap_setCell _ _ _ _ (by
    show x≠g
    intro e;exact hx.2.2 (by rw[e];rfl))
   have hsz:(wr.setCell ⟨g,i*16+j,none⟩ u).heap.size=wr.heap.size:=by simp[World.setCell]
   by_cases hki:k=i
   ·subst hki
    rw[List.getElem?_set_self hil] at hk
    injection hk with hk
    subst hk
    rw[hn,hv]
    exact (h.kids k q hi).move (fun x hx=>⟨hx.1,by rw[hsz];exact hx.2.1,hx.2.2⟩) hbl
   ·rw[List.getElem?_set_ne (fun e=>hki e.symm)] at hk
    exact (h.kids k r hk).move (fun x hx=>⟨hx.1,by rw[hsz];exact hx.2.1,hx.2.2⟩) hbl
  ·have:=h.own.cells (g:=g) rfl (16*i+j)
   cases hc:(pt16 q.1 q.2)[j]? with
   | none=>rw[List.getElem?_eq_none_iff,zes] at hc;omega
   | some x=>
    have h9:=this x (by rw[hlc];exact hc)
    have ha:(⟨g,0,none⟩:Addr).add (16*i+j)=⟨g,i*16+j,none⟩:=by
     simp only[Addr.add];split
     ·rename_i h;simp <;> omega
     ·simp <;> omega
    rw[← ha];exact h9
  ·exact za7 hx _
  ·intro B' hB' w0 hb
   exact hb.setCell (p:=⟨g,i*16+j,none⟩) hB' _
def ze0 (q s:RPt):Bool:=decide (q.what=2) && decide (q.c=s.c) && q.op && decide (0<q.left) && zvu q s
def zbn (l:List RPt) (s:RPt):Nat→Option Nat
 | 0=>none
 | k+1=>match l[k]? with
  | some q=>if ze0 q s=true then some k else zbn l s k
  | none=>zbn l s k
theorem zg6 (l:List RPt) (s:RPt) (k j:Nat) (h:zbn l s k=some j):j<k∧∃ q,l[j]?=some q∧ze0 q s=true:=by
 induction k with
 | zero=>simp[zbn] at h
 | succ k ih=>
  simp only[zbn] at h
  split at h
  ·rename_i q hq
   split at h
   ·rename_i ho;cases h;exact ⟨by omega,q,hq,ho⟩
   ·obtain ⟨h1,h2⟩:=ih h;exact ⟨by omega,h2⟩
  ·obtain ⟨h1,h2⟩:=ih h;exact ⟨by omega,h2⟩
def zds (q s:RPt):Nat:=if 2≤s.left∧2≤q.left then 2 else 1
def zfh (p:RPt) (n:Nat):RPt:={ p with left:=p.left-n }
def zcx (nd:Rn):RPt:=⟨1,[],nd,0,0,0,false,false,false,false⟩
def zhx (n:Nat) (l:List RPt):Rn:=.nd (if n=2 then 15 else 14) 0 [] [] 0 (zd6 l [])
def zk3 (l:List RPt) (j i:Nat) (q s:RPt):List RPt:=l.take j++zfh q (zds q s)::zcx (zhx (zds q s) ((l.take i).drop (j+1)))::zfh s (zds q s)::l.drop (i+1)
def ze4 (l:List RPt) (i:Nat):List RPt × Nat:=match l[i]? with
 | none=>(l,i+1)
 | some s=>if s.what=2∧s.cl=true∧0<s.left then (match zbn l s i with
   | none=>(l,i+1)
   | some j=>match l[j]? with
    | some q=>(zk3 l j i q s,j+2)
    | none=>(l,i+1)) else (l,i+1)
inductive ze7:List RPt→Nat→List Rn→Prop
 | done (l:List RPt) (i:Nat) (h:l.length≤i):ze7 l i (zd6 l [])
 | step (l:List RPt) (i:Nat) (ns:List Rn) (h:i<l.length) (hr:ze7 (ze4 l i).1 (ze4 l i).2 ns):ze7 l i ns
theorem zg3 (l:List RPt) (i:Nat) (s:RPt) (hs:l[i]?=some s) (h:(if s.what=2∧s.cl=true∧0<s.left then zbn l s i else none)=none):ze4 l i=(l,i+1):=by
 unfold ze4
 rw[hs]
 by_cases hc:s.what=2∧s.cl=true∧0<s.left
 ·rw[if_pos hc] at h
  simp only[if_pos hc,h]
 ·simp only[if_neg hc]
theorem ziw (l:List RPt) (i j:Nat) (s q:RPt) (hs:l[i]?=some s) (h:(if s.what=2∧s.cl=true∧0<s.left then zbn l s i else none)=some j) (hq:l[j]?=some q):ze4 l i=(zk3 l j i q s,j+2):=by
 unfold ze4
 rw[hs]
 by_cases hc:s.what=2∧s.cl=true∧0<s.left
 ·rw[if_pos hc] at h
  simp only[if_pos hc,h,hq]
 ·rw[if_neg hc] at h;cases h
theorem zz4 {α:Type} (l:List α) (j i:Nat) (q p : α) (hji:j<i) (hq:l[j]?=some q) (hp:l[i]?=some p):l=l.take j++q::((l.take i).drop (j+1)++p::l.drop (i+1)):=by
 obtain ⟨h1,h2⟩:=List.getElem?_eq_some_iff.1 hp
 obtain ⟨h3,h4⟩:=List.getElem?_eq_some_iff.1 hq
 have e1:l.drop i=p::l.drop (i+1):=by rw[List.drop_eq_getElem_cons h1,h2]
 have h5:j<(l.take i).length:=by rw[List.length_take];omega
 have e2:(l.take i).drop j=q::(l.take i).drop (j+1):=by
  rw[List.drop_eq_getElem_cons h5,List.getElem_take,h4]
 have e3:(l.take i).take j=l.take j:=by rw[List.take_take,Nat.min_eq_left (by omega)]
 have e4:l.take i++l.drop i=l:=List.take_append_drop i l
 have e5:(l.take i).take j++(l.take i).drop j=l.take i:=List.take_append_drop j _
 rw[e3,e2] at e5
 rw[e1] at e4
 have e6:(l.take j++q::(l.take i).drop (j+1))++p::l.drop (i+1)=l:=by rw[e5];exact e4
 rw[List.append_assoc,List.cons_append] at e6
 exact e6.symm
theorem zzm {α:Type} (l:List α) (j i:Nat) (q p nd : α) (hq:l[j]?=some q) (hp:l[i]?=some p):(l.take (j+1)++[nd])++l.drop i=l.take j++q::nd::p::l.drop (i+1):=by
 obtain ⟨h1,h2⟩:=List.getElem?_eq_some_iff.1 hp
 rw[List.take_add_one,hq,List.drop_eq_getElem_cons h1,h2]
 simp
theorem put2 {α:Type} (l r:List α) (j:Nat) (q nd p q' p' : α) (hl:l.length=j):((l++q::nd::p::r).set j q').set (j+2) p'=l++q' :: nd::p' :: r:=by
 rw[List.set_append_right _ _ (by omega),hl,Nat.sub_self,List.set_cons_zero,List.set_append_right _ _ (by omega),hl,show j+2-j=2 by omega]
 rfl
def zjm (qs:List (RPt × Value)) (j i:Nat) (q p:RPt × Value) (kv:Value):List (RPt × Value):=qs.take j++(zfh q.1 (zds q.1 p.1),q.2)::(zcx (zhx (zds q.1 p.1) (((qs.map Prod.fst).take i).drop (j+1))),kv)::(zfh p.1 (zds q.1 p.1),p.2)::qs.drop (i+1)
theorem zx1 (qs:List (RPt × Value)) (j i:Nat) (q p:RPt × Value) (kv:Value):(zjm qs j i q p kv).map Prod.fst=zk3 (qs.map Prod.fst) j i q.1 p.1:=by
 unfold zjm zk3
 simp[List.map_take,List.map_drop]
theorem zv3 (qs:List (RPt × Value)) (j i:Nat) (q p:RPt × Value) (kv:Value) (hji:j<i) (hq:qs[j]?=some q) (hp:qs[i]?=some p) (h1:0<q.1.left) (h2:0<p.1.left):zc2 (zjm qs j i q p kv)+2≤zc2 qs∧(zjm qs j i q p kv).length=(j+2)+(qs.length-i):=by
 have hpl:=(List.getElem?_eq_some_iff.1 hp).1
 have e:zc2 qs=zc2 (qs.take j)+(q.1.s.length+q.1.left+(zc2 ((qs.take i).drop (j+1))+(p.1.s.length+p.1.left+zc2 (qs.drop (i+1))))):=by
  have:=zz4 qs j i q p hji hq hp
  exact (congrArg zc2 this).trans (by rw[zd8,zea,zd8,zea])
 have hn:zds q.1 p.1=1∨zds q.1 p.1=2:=by unfold zds;split;exact .inr rfl;exact .inl rfl
 have hn2:zds q.1 p.1≤q.1.left∧zds q.1 p.1≤p.1.left:=by unfold zds;split <;> omega
 constructor
 ·unfold zjm
  rw[zd8,zea,zea,zea,e]
  simp only[zfh,zcx,List.length_nil]
  omega
 ·unfold zjm
  rw[List.length_append,List.length_cons,List.length_cons,List.length_cons,List.length_take,List.length_drop]
  omega
theorem zvw (P:RPt→Prop) (qs:List (RPt × Value)) (j i:Nat) (q p:RPt × Value) (kv:Value) (hq:qs[j]?=some q) (hp:qs[i]?=some p) (h:∀ (k:Nat) (x:RPt × Value),qs[k]?=some x→P x.1) (hl:∀ x n,P x→P (zfh x n)) (hnd:∀ nd,P (zcx nd)):∀ (k:Nat) (x:RPt × Value),(zjm qs j i q p kv)[k]?=some x→P x.1:=by
 have hm:∀ x∈qs,P x.1:=fun x hx=>by
  obtain ⟨k,hk⟩:=List.getElem?_of_mem hx
  exact h k x hk
 intro k x hx
 have:=List.mem_of_getElem? hx
 unfold zjm at this
 rw[List.mem_append,List.mem_cons,List.mem_cons,List.mem_cons] at this
 rcases this with h1|h1|h1|h1|h1
 ·exact hm x (List.mem_of_mem_take h1)
 ·rw[h1];exact hl _ _ (h j q hq)
 ·rw[h1];exact hnd _
 ·rw[h1];exact hl _ _ (h i p hp)
 ·exact hm x (List.mem_of_mem_drop h1)
end Go.Proofs.YtlojgpkajkedeaaGreatDoor
