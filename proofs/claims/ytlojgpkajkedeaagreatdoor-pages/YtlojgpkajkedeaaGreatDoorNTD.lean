import Derived.Test.YtlojgpkajkedeaaGreatDoorNTB
import Derived.Test.YtlojgpkajkedeaaGreatDoorNRY
import Derived.Maps.AppendAt
set_option maxHeartbeats 16000000
set_option maxRecDepth 100000
namespace Go.Proofs.YtlojgpkajkedeaaGreatDoor
open Go.RowKit Go.Proofs.Tryz
def rtot (l:List RPt):Nat:=(l.map (λp=>p.s.length+p.left)).sum
theorem zqb (qs:List (RPt × Value)):zc8 qs=rtot (qs.map Prod.fst):=by simp[zc8,rtot,Function.comp_def]
def zbt (l:List RPt):Nat->Option Nat
 | 0=>none
 | k+1=>match l[k]? with
  | some q=>if q.what=3 then some k else zbt l k
  | none=>zbt l k
theorem zs9 (l:List RPt)(n k:Nat)(h:zbt l n=some k):k<n/\∃q,l[k]?=some q/\q.what=3:=by
 induction n with
 | zero=>simp[zbt] at h
 | succ n ih=>
  simp only[zbt] at h;split at h
  ·rename_i q hq;split at h
   ·rename_i ho;cases h;exact⟨by omega,q,hq,ho⟩
   ·obtain⟨h1,h2⟩:=ih h;exact⟨by omega,h2⟩
  ·obtain⟨h1,h2⟩:=ih h;exact⟨by omega,h2⟩
def zbx (im:Bool)(m:RPt):RPt:=if m.what=3/\im=false/\m.im=false then { m with dead:=true } else m
def zdc (l:List RPt)(t:List UInt8)(p:Nat)(l':List RPt)(p':Nat):Prop:=
 (zbt l l.length=none/\l'=l++[txtR [93]]/\p'=p+1) \/
 (∃k q,zbt l l.length=some k/\l[k]?=some q/\(q.dead=true\/tgt t (p+1)=0)/\l'=l.set k { q with what:=0 } ++ [txtR [93]]/\p'=p+1) \/
 (∃k q ns,zbt l l.length=some k/\l[k]?=some q/\q.dead=false/\0<tgt t (p+1)/\zeq (l.drop (k+1)) 0 ns/\l'=(l.take k).map (zbx q.im)++[zd6 (.nd (if q.im=true then 13 else 12) 0 ((t.take (tgt t (p+1)-1)).drop (p+2)) [] 0 ns)]/\p'=tgt t (p+1))
theorem zr4 (l:List UInt8)(p:Nat)(h:0<tgt l p):p+2<=tgt l p/\tgt l p<=l.length:=by
 unfold tgt at h ⊢;by_cases ho:S.zd5 (l.drop p)=true
 ·rw[if_pos ho] at h ⊢;refine⟨by omega,?_⟩;unfold S.zd5 at ho;rw[Bool.and_eq_true,has1,has1] at ho;have h2:=(Qb.1 ho.2).1;rw[Qf,Qf,Qbb] at h2;rw[show p+1=p+1 from rfl] at *;omega
 ·rw[if_neg ho] at h;omega
theorem POwn.one {D:Nat}{qs:List (RPt × Value)}{a:Option Addr}{cap g cap1:Nat}{wr w1 w2:World}{ob:Obj}{np:RPt}{kv:Value}(h:POwn (λx=>D<=x) D qs (.slice a qs.length cap) wr)(hb:Below wr.heap.size wr w1)(hD:D<=wr.heap.size)(hrep:RepN w1 (λx=>D<=x/\x<w1.heap.size/\some x≠(Value.slice a qs.length cap).ownBlock) kv np.node.kids)
  (ho:w2.ownsRow D 196 16 (.slice (some ⟨g,0,none⟩) (qs.length+1) cap1) (qs.length+1) (za9 qs++pt16 np kv)) (hg:(w1.alloc ob).grownBy w2 (Value.slice a qs.length cap).ownBlock) (hat:(Value.slice a qs.length cap).ownBlock=some g\/g=w1.heap.size+1) :
  POwn (λx=>D<=x) D (qs++[(np,kv)]) (.slice (some ⟨g,0,none⟩) (qs++[(np,kv)]).length cap1) w2/\Below D wr w2:=by
 have hbX:Below w1.heap.size w1 (w1.alloc ob):=(Below.refl _ _).alloc (Qc _) ob;have bg:Below wr.heap.size wr (w1.alloc ob):=hb.trans (hbX.mono hb.size);have dh:=hbX.size;refine⟨(h.after bg).many (rs:=[(np,kv)]) (λi q hi=>?_) (by simpa [za9] using ho) hg (by
  rcases hat with e|e
  ·exact .inl e
  ·exact .inr (by rw[e];simp)),?_⟩
 ·have hi0:i=0:=by have:=(Qb.1 hi).1;simp at this;exact this
  subst hi0;simp at hi;subst hi;exact hrep.move (λ_ hx=>⟨hx.1,by omega,hx.2.2⟩) (λx hx=>hbX.block x hx.2.1)
 ·exact Below.grown (bg.mono hD) hg (by have:=hb.size;omega) (λq hq=>(h.own.lt q hq).1)
theorem zdc.small {l l':List RPt}{t:List UInt8}{p p':Nat}(h:zdc l t p l' p'):l'.length<=l.length+1/\rtot l'<=rtot l+1:=by
 have happ:∀a b,rtot (a++b)=rtot a+rtot b:=λa b=>by simp[rtot]
 have bg:rtot [txtR [93]]=1:=by simp[rtot,txtR]
 rcases h with ⟨_,h,_⟩|⟨k,q,_,hq,_,h,_⟩|⟨k,q,ns,hk,hq,_,_,_,h,_⟩
 ·rw[h];exact⟨by simp,by rw[happ,bg];omega⟩
 ·have hs:rtot (l.set k { q with what:=0 })=rtot l:=by
   have hm:(l.set k { q with what:=0 }).map (λp=>p.s.length+p.left)=l.map (λp=>p.s.length+p.left):=by
    rw[List.map_set];apply List.ext_getElem?
    intro i;by_cases e:k=i
    ·subst e;have hl:=(Qb.1 hq).1;rw[List.getElem?_set_self (by simpa using hl),List.getElem?_map,hq];rfl
    ·rw[List.getElem?_set_ne e]
   unfold rtot;rw[hm]
  rw[h];exact⟨by simp,by rw[happ,bg,hs];omega⟩
 ·have hm:((l.take k).map (zbx q.im)).map (λp=>p.s.length+p.left)=(l.take k).map (λp=>p.s.length+p.left):=by
   rw[List.map_map];apply List.map_congr_left
   intro x _;simp only[Function.comp];unfold zbx;split<;>rfl
  have ht:rtot (l.take k)<=rtot l:=by
   have:rtot l=rtot (l.take k)+rtot (l.drop k):=by rw[<-happ,List.take_append_drop]
   omega
  have h0:∀nd,rtot [zd6 nd]=0:=λnd=>by simp[rtot,zd6]
  rw[h];constructor
  ·rw[Qa,List.length_map,Ql];simp;omega
  ·rw[happ,h0];unfold rtot at ht ⊢;rw[hm];omega
structure NMid (D:Nat)(w:World)(nb:Nat)(kd:Int)(inf:ByteArray)(va:Option Addr)(vn vc:Nat)(ns:List Rn)(wx:World):Prop where
 pos:w.heap.size<=nb
 lt:nb<wx.heap.size
 below:Below w.heap.size w wx
 blk:wx.heap[nb]?=some (.cells #[.int .i64 0,.int .i64 kd,.int .i64 0,.string inf,.string ⟨#[]⟩,.int .i64 0,.slice va vn vc] 118 (0,0))
 rep:RepN wx (λx=>(D<=x/\x<w.heap.size)\/(w.heap.size<=x/\x<wx.heap.size)) (.slice va vn vc) ns
theorem z5c {D:Nat}{w w0 w3:World}{kd:Int}{inf:ByteArray}{va:Option Addr}{vn vc:Nat}{ns:List Rn}(h0:Below w.heap.size w w0)(hr:RepN w3 (λx=>(D<=x/\x<w.heap.size)\/(w0.heap.size<=x/\x<w3.heap.size)) (.slice va vn vc) ns)(h3:Below w0.heap.size w0 w3):NMid D w w3.heap.size kd inf va vn vc ns (w3.alloc (.cells #[.int .i64 0,.int .i64 kd,.int .i64 0,.string inf,.string ⟨#[]⟩,.int .i64 0,.slice va vn vc] 118)):=by
 have h1:=h0.size;have h2:=h3.size;have hb:Below w3.heap.size w3 (w3.alloc (.cells #[.int .i64 0,.int .i64 kd,.int .i64 0,.string inf,.string ⟨#[]⟩,.int .i64 0,.slice va vn vc] 118)):=(Below.refl _ _).alloc (Qc _) _;have hs:=hb.size;exact⟨by omega,by simp,(h0.trans (h3.mono h1)).alloc (by omega) _,za1 _ _,hr.move (λx hx=>by
  rcases hx with h|h
  ·exact .inl h
  ·exact .inr ⟨by omega,by omega⟩) (λx hx=>hb.block x (by omega))⟩
theorem z5b {D:Nat}{w w0 w3:World}{kd:Int}{inf:ByteArray}{va:Option Addr}{vn vc:Nat}{ns:List Rn}(h0:Below w.heap.size w w0)(hz:w0.heap.size=w.heap.size+1)
  (hx:w0.heap[w.heap.size]?=some (.cells #[.int .i64 0,.int .i64 0,.int .i64 0,.string ⟨#[]⟩,.string ⟨#[]⟩,.int .i64 0,.slice none 0 0] 118 (0,0)))
  (hr:RepN w3 (λx=>(D<=x/\x<w.heap.size)\/(w0.heap.size<=x/\x<w3.heap.size)) (.slice va vn vc) ns) (h3:Below w0.heap.size w0 w3) :
  NMid D w w.heap.size kd inf va vn vc ns (((((((w3.setCell ⟨w.heap.size,0,none⟩ (.int .i64 0)).setCell ⟨w.heap.size,1,none⟩ (.int .i64 kd)).setCell ⟨w.heap.size,2,none⟩ (.int .i64 0)).setCell ⟨w.heap.size,3,none⟩ (.string inf)).setCell ⟨w.heap.size,4,none⟩ (.string ⟨#[]⟩)).setCell ⟨w.heap.size,5,none⟩ (.int .i64 0)).setCell ⟨w.heap.size,6,none⟩ (.slice va vn vc)):=by
 have h1:=h0.size;have h2:=h3.size;refine⟨Qc _,by rw[zho];omega,zbb (h0.trans (h3.mono h1)) (Qc _) _ _ _ _ _ _ _,set7 ((h3.block w.heap.size (by omega)).trans hx) _ _ _ _ _ _ _,(zcw hr (N:=w.heap.size) (λx hx e=>by omega) _ _ _ _ _ _ _).move (λx hx=>?_) (λ_ _=>rfl)⟩;rw[zho];rcases hx with h|h
 ·exact .inl h
 ·exact .inr ⟨by omega,h.2⟩
def dz (im:Bool)(i:Nat)(A:List (RPt × Value)):List (RPt × Value):=(A.take i).map (λx=>(zbx im x.1,x.2))++A.drop i
theorem z1w (im:Bool)(i:Nat)(A:List (RPt × Value)):(dz im i A).length=A.length:=by
 unfold dz;rw[Qa,List.length_map,Ql,Qf];omega
theorem z1n (im:Bool)(i:Nat)(A:List (RPt × Value))(x:RPt × Value)(h:A[i]?=some x):(dz im i A)[i]?=some x:=by
 have hl:=(Qb.1 h).1;unfold dz;have hm:((A.take i).map (λx=>(zbx im x.1,x.2))).length=i:=by rw[List.length_map,Ql];omega
 rw[Qu (by omega),hm,Nat.sub_self,Qn,Nat.add_zero,h]
theorem zwn (im:Bool)(i:Nat)(A:List (RPt × Value))(x:RPt × Value)(h:A[i]?=some x):dz im (i+1) A=(dz im i A).set i (zbx im x.1,x.2):=by
 obtain⟨hl,hx⟩:=Qb.1 h;unfold dz;have hm:((A.take i).map (λx=>(zbx im x.1,x.2))).length=i:=by rw[List.length_map,Ql];omega
 rw[List.set_append_right _ _ (by omega),hm,Nat.sub_self,Qm hl,hx,List.set_cons_zero,List.take_add_one,h];simp
theorem z2q (im:Bool)(i:Nat)(A:List (RPt × Value))(x:RPt × Value)(h:A[i]?=some x)(hd:zbx im x.1=x.1):dz im (i+1) A=dz im i A:=by
 rw[zwn im i A x h,hd];apply List.ext_getElem?
 intro j;by_cases e:i=j
 ·subst e;rw[List.getElem?_set_self (by rw[z1w];exact(Qb.1 h).1),z1n im i A x h]
 ·rw[List.getElem?_set_ne e]
theorem z4c (im:Bool)(A:List (RPt × Value)):dz im 0 A=A:=by simp[dz]
theorem z5g (im:Bool)(A:List (RPt × Value)):dz im A.length A=A.map (λx=>(zbx im x.1,x.2)):=by simp[dz]
theorem zsn (D:Nat)(a:Option Addr)(cap:Nat)(qs:List (RPt × Value))(s:ByteArray)(p:Nat)(w:World)(hO:POwn (λx=>D<=x) D qs (.slice a qs.length cap) w)(hD:D<=w.heap.size)(hs:s.size<=1000000)(hp:p<s.size)(hsz:qs.length+zc8 qs<=3000000)(hn:∀(i:Nat) (q:RPt × Value),qs[i]?=some q->q.1.n<=1000000):Calls prog 139 #[.slice a qs.length cap,.string s,.int .i64 (p:Nat)] w λe w'=>∃(qs':List (RPt × Value)) (a':Option Addr) (cap' p':Nat),e=.returned (.tuple #[.slice a' qs'.length cap',.int .i64 (p':Nat)])/\Hid (POwn (λx=>D<=x) D qs' (.slice a' qs'.length cap') w'/\zdc (qs.map Prod.fst) s.data.toList p (qs'.map Prod.fst) p'/\Below D w w'):=by
 obtain⟨i0,hi',hi0,hi1,hi2⟩:=info_parts Tryz.zm9;have jw:=hid hO;have hnH:=hid hn;have yx:qs.length<=cap:=by
  rcases hO.own.2 with ⟨h1,h2⟩|⟨_,_,_,h1,_,_,h4,_⟩
  ·omega
  ·injection h1 with _ _ h3;omega
 have hlq:qs.length<=3000000:=by omega
 have dh:=hid hO.row;obtain⟨L,hL⟩:=Qyy (qs.map Prod.fst);have hLl:Hid (L.length=qs.length):=hid (by rw[<-hL,List.length_map]);obtain⟨FO,zk⟩:=Qyy (zbt L L.length);have mh:=hid hL;have jh:=hid zk;rw[hL];clear hO hn hL zk;have qp:Hid (∀wx,Calls prog 134 #[.string ⟨#[93]⟩] wx λe w'=>e=.returned (.agg #[.int .i64 0,.string ⟨#[93]⟩,.int .i64 0,.int .i64 0,.int .i64 0,.string ⟨#[]⟩,.string ⟨#[]⟩,.int .i64 0,.slice none 0 0,.int .u8 0,.int .i64 0,.int .i64 0,.bool false,.bool false,.bool false,.bool false])/\Below wx.heap.size wx w'):=hid (λwx=>ziy ⟨#[93]⟩ wx);have hone:Hid (∀v∈([.int .i64 0,.string ⟨#[93]⟩,.int .i64 0,.int .i64 0,.int .i64 0,.string ⟨#[]⟩,.string ⟨#[]⟩,.int .i64 0,.slice none 0 0,.int .u8 0,.int .i64 0,.int .i64 0,.bool false,.bool false,.bool false,.bool false]:List Value),v.oneCell'=true):=hid (by
  intro v hv;simp only[List.mem_cons,List.not_mem_nil,or_false] at hv;rcases hv with rfl|rfl|rfl|rfl|rfl|rfl|rfl|rfl|rfl|rfl|rfl|rfl|rfl|rfl|rfl|rfl<;>rfl)
 have hnew:Hid (∀(w1:World) jj v,([.int .i64 0,.string ⟨#[93]⟩,.int .i64 0,.int .i64 0,.int .i64 0,.string ⟨#[]⟩,.string ⟨#[]⟩,.int .i64 0,.slice none 0 0,.int .u8 0,.int .i64 0,.int .i64 0,.bool false,.bool false,.bool false,.bool false]:List Value)[jj]?=some v->(w1.alloc (.cells #[.int .i64 0,.string ⟨#[93]⟩,.int .i64 0,.int .i64 0,.int .i64 0,.string ⟨#[]⟩,.string ⟨#[]⟩,.int .i64 0,.slice none 0 0,.int .u8 0,.int .i64 0,.int .i64 0,.bool false,.bool false,.bool false,.bool false] 196)).cell? ((⟨w1.heap.size,0,none⟩:Addr).add jj)=some v):=hid (λw1 jj v hj=>World.news_of_block (za1 _ _) jj v (by exact hj));have zx:IntKind.i64.wrap ((p:Int)+1)=(p:Int)+1:=by rw[IntKind.wrap_i64];omega
 have hwl:IntKind.i64.wrap ((qs.length:Int)-1)=(qs.length:Int)-1:=by rw[IntKind.wrap_i64];omega
 go_enter func139,ntmps139;go_upto_region 2 with fail
 go_loop [8] (λkv=>∃t:Nat,t<=qs.length/\kv=.int .i64 ((t:Int)-1)/\Hid (FO=zbt L t)) (λkv=>(intOf kv+1).toNat)
 case atStart=>exact⟨qs.length,Qc _,rfl,hid (by rw[<-jh.out,hLl.out])⟩
 case round=>
 obtain⟨t,ht,rfl,hf⟩:=hrel;clear hwl;by_cases hgo:∃q,qs[t-1]?=some q/\0<t/\q.1.what≠3
 ·obtain⟨q,hq,ht0,hw3⟩:=hgo;obtain⟨k,rfl⟩:∃k,t=k+1:=⟨t-1,by omega⟩;rw[Nat.add_sub_cancel] at hq;obtain⟨b,o,rfl,hbw⟩:=dh.out.cell k q hq;have c0:w.cell? ⟨b,o+k*16,none⟩=some (.int .i64 q.1.what):=dh.out.at_ k q hq 0 _ rfl;have hne3:((q.1.what:Int) != 3)=true:=by rw[bne_iff_ne];exact hw3
  have hf2:Hid (FO=zbt L k):=hid (by
   rw[hf.out];simp only[zbt];have h1:L[k]?=some q.1:=by rw[<-mh.out,List.getElem?_map,hq];rfl
   rw[h1];simp only;rw[if_neg hw3])
  have hJ0:(0:Int)<=(k:Int):=by omega
  have hJ1:(k:Int)<(qs.length:Int):=by omega
  have hwk:IntKind.i64.wrap ((k:Int)-1)=(k:Int)-1:=by rw[IntKind.wrap_i64];omega
  rw[show ((k+1:Nat):Int)-1=(k:Int) by omega];clear hq hf hw3 ht0;go_wp2;exact⟨⟨k,by omega,by first|rfl|go_num,hf2⟩,by simp[intOf]⟩
 have vg:Hid (FO=if t=0 then none else some (t-1)):=hid (by
  rw[hf.out];cases t with
  | zero=>rfl
  | succ k=>
   simp only[zbt];have hkl:k<qs.length:=by omega
   have h0:qs[k]?=some qs[k]:=Qg hkl;have h1:L[k]?=some qs[k].1:=by rw[<-mh.out,List.getElem?_map,h0];rfl
   rw[h1];simp only;have h3:qs[k].1.what=3:=by
    cases Decidable.em (qs[k].1.what=3) with
    | inl h=>exact h
    | inr h=>exact absurd ⟨qs[k],by rw[Nat.add_sub_cancel];exact h0,by omega,h⟩ hgo
   rw[if_pos h3,if_neg (by omega),Nat.add_sub_cancel])
 clear hgo hf;by_cases ht0:t=0
 ·subst ht0;have hnone:Hid (FO=none):=hid (by rw[vg.out];rfl);clear vg;have hO2:Hid (∀(w1:World) ob g' bg w2,Below w.heap.size w w1->w2.ownsRow D 196 16 (.slice (some ⟨g',0,none⟩) (qs.length+1) bg) (qs.length+1) (za9 qs++[.int .i64 0,.string ⟨#[93]⟩,.int .i64 0,.int .i64 0,.int .i64 0,.string ⟨#[]⟩,.string ⟨#[]⟩,.int .i64 0,.slice none 0 0,.int .u8 0,.int .i64 0,.int .i64 0,.bool false,.bool false,.bool false,.bool false])->(w1.alloc ob).grownBy w2 (Value.slice a qs.length cap).ownBlock->((Value.slice a qs.length cap).ownBlock=some g'\/g'=w1.heap.size+1)->∃qs':List (RPt × Value),qs'.length=qs.length+1/\POwn (λx=>D<=x) D qs' (.slice (some ⟨g',0,none⟩) qs'.length bg) w2/\zdc L s.data.toList p (qs'.map Prod.fst) (p+1)/\Below D w w2):=hid (λw1 ob g' bg w2 hb h1 h2 h3=>by
   have:=jw.out.one (np:=txtR [93]) (kv:=.slice none 0 0) hb hD .nil h1 h2 h3;exact⟨_,by simp,this.1,.inl ⟨by rw[jh.out];exact hnone.out,by rw[Qv,mh.out];rfl,rfl⟩,this.2⟩)
  have hown:Hid (∀(w1:World) ob,Below w.heap.size w w1->(w1.alloc ob).ownsRow D 196 16 (.slice a qs.length cap) qs.length (za9 qs)):=hid (λw1 ob hb=>(jw.out.after (hb.alloc hb.size ob)).own);go_wp2_with fail
  refine(qp.out _).mono ?_;rintro e w1⟨rfl,hb1⟩;have jg:=hid hb1;have hw1:D<=w1.heap.size:=Qj hD hb1.size;clear hb1;go_wp2_with (at_builtin;refine wpList_append_lies _ (by rfl) _ _ 194 (by rfl) D 196 i0 (.agg #[.int .i64 0,.string ⟨#[]⟩,.int .i64 0,.int .i64 0,.int .i64 0,.string ⟨#[]⟩,.string ⟨#[]⟩,.int .i64 0,.slice none 0 0,.int .u8 0,.int .i64 0,.int .i64 0,.bool false,.bool false,.bool false,.bool false]) 16 144 underlying194 hi' hi0 hi1 hi2 (by rfl) (by omega) (.slice a qs.length cap) qs.length (za9 qs) (by rfl) (hown.out w1 _ jg.out) ⟨w1.heap.size,0,none⟩ 1 1 [.int .i64 0,.string ⟨#[93]⟩,.int .i64 0,.int .i64 0,.int .i64 0,.string ⟨#[]⟩,.string ⟨#[]⟩,.int .i64 0,.slice none 0 0,.int .u8 0,.int .i64 0,.int .i64 0,.bool false,.bool false,.bool false,.bool false] (by rfl) (by rfl) (hnew.out w1) hone.out (by omega) (by unfold maxLen;omega) (by omega) (by simp;omega) (w1.heap.size+1) (by simp) ?_)
  intro g' bg w2 hown1 hgrow hat kg;have hR:=hid (hO2.out w1 _ g' bg w2 jg.out hown1 hgrow hat);clear hown1 hgrow hat kg;go_wp2;refine bodyPost_ret (v:=.tuple #[.slice (some ⟨g',0,none⟩) (qs.length+1) bg,.int .i64 ((p:Int)+1)]) (by simp[results,results139,go_sem]) rfl ?_;obtain⟨qs',h0,h1,h2,h3⟩:=hR.out;exact⟨qs',some ⟨g',0,none⟩,bg,p+1,by rw[h0];rfl,hid ⟨h1,h2,h3⟩⟩
 obtain⟨k,rfl⟩:∃k,t=k+1:=⟨t-1,by omega⟩;have hsome:Hid (FO=some k):=hid (by rw[vg.out,if_neg (by omega),Nat.add_sub_cancel]);have hkl:k<qs.length:=by omega
 obtain⟨q,hq⟩:∃q,qs[k]?=some q:=⟨qs[k],Qg hkl⟩;have hLk:L[k]?=some q.1:=by rw[<-mh.out,List.getElem?_map,hq];rfl
 have hw3:q.1.what=3:=by
  obtain⟨_,q1,h1,h2⟩:=zs9 _ _ _ (jh.out.trans hsome.out);rw[hLk] at h1;rw[Qy h1];exact h2
 obtain⟨b,o,rfl,hbw⟩:=dh.out.cell k q hq;have ho0:o=0:=by
  rcases jw.out.own.2 with ⟨h1,_⟩|⟨g,_,_,h1,_⟩
  ·cases h1
  ·injection h1 with h1
   injection h1 with h1
   injection h1
 subst ho0;have hDb:D<=b:=(jw.out.own.lt b rfl).1;have c0:w.cell? ⟨b,k*16,none⟩=some (.int .i64 3):=by rw[<-hw3];have:=dh.out.at_ k q hq 0 _ rfl;rwa [Nat.zero_add] at this
 have c14:w.cell? ⟨b,k*16+14,none⟩=some (.bool q.1.im):=by have:=dh.out.at_ k q hq 14 _ rfl;rwa [Nat.zero_add] at this
 have c15:w.cell? ⟨b,k*16+15,none⟩=some (.bool q.1.dead):=by have:=dh.out.at_ k q hq 15 _ rfl;rwa [Nat.zero_add] at this
 obtain⟨tg,vv⟩:=Qyy (tgt s.data.toList (p+1));have hTg:Hid (Calls prog 189 #[.string s,.int .i64 ((p:Int)+1)] w λe w'=>e=.returned (.int .i64 (tg:Nat))/\w=w'):=hid (by
  have:=zt6 s (p+1) w hs (by omega);rw[vv] at this;exact this)
 obtain⟨qd,wh⟩:∃x,q.1.dead=x:=⟨_,rfl⟩;obtain⟨qi,hqi⟩:∃x,q.1.im=x:=⟨_,rfl⟩;rw[wh] at c15;rw[hqi] at c14;have hJ0:(0:Int)<=(k:Int):=by omega
 have hJ1:(k:Int)<(qs.length:Int):=by omega
 have hJ2:¬(k:Int)<0:=by omega
 rw[show ((k+1:Nat):Int)-1=(k:Int) by omega];have dw:=hid vv;have hqH:=hid hq;have qy:=hid hLk;have ng:=hid wh;have vw:=hid hqi;have hw3H:=hid hw3;clear vg ht0 hq hLk hw3 vv wh hqi;go_wp2_with fail
 refine hTg.out.mono ?_;rintro e w'⟨rfl,rfl⟩;obtain⟨db,hdb⟩:∃db:Bool,(qd||decide (tg=0))=db:=⟨_,rfl⟩;have jd:=hid hdb;clear hdb;go_upto_region 7 with fail
 go_cut [49] (λs49 wx=>s49=.bool db/\w=wx)
 case first=>
  cases qd
  ·by_cases h1:tg=0
   ·have he:Hid (db=true):=hid (by rw[<-jd.out,decide_eq_true h1];rfl);have e1:((tg:Int) == 0)=true:=(by rw[beq_iff_eq];omega);go_wp2;go_meet;exact⟨by rw[he.out],rfl⟩
   ·have he:Hid (db=false):=hid (by rw[<-jd.out,decide_eq_false h1];rfl);have e1:((tg:Int) == 0)=false:=(by rw[Qe];omega);have e2:¬(tg:Int)=0:=(by omega);go_wp2;go_meet;exact⟨by rw[he.out],rfl⟩
  ·have he:Hid (db=true):=hid (by rw[<-jd.out];rfl);go_wp2;go_meet;exact⟨by rw[he.out],rfl⟩
 case rest=>
 obtain⟨rfl,rfl⟩:=hcut;cases db
 case true=>
  have gy:Hid (q.1.dead=true\/tgt s.data.toList (p+1)=0):=hid (by
   have:=jd.out;rw[Bool.or_eq_true,decide_eq_true_iff] at this;rw[ng.out,dw.out];exact this)
  obtain⟨hP1,d0,f0,hB1⟩:=jw.out.set k 0 q ({ q.1 with what:=0 },q.2) (.int .i64 0) hqH.out (by omega) rfl rfl rfl
  obtain⟨W1,hW1⟩:=Qzz (w.setCell ⟨b,k*16,none⟩ (.int .i64 0));have jl:POwn (λx=>D<=x) D (qs.set k ({ q.1 with what:=0 },q.2)) (.slice (some ⟨b,0,none⟩) qs.length cap) W1:=by rw[hW1];exact hP1
  have qz:Below D w W1:=by rw[hW1];exact hB1 D hDb w (Below.refl _ _)
  have f0':w.frozen? ⟨b,k*16,none⟩=false:=f0;have hs1:W1.heap.size=w.heap.size:=by rw[hW1];simp[World.setCell]
  have hD1:D<=W1.heap.size:=by omega
  obtain⟨q2,hq2⟩:=Qyy (qs.set k ({ q.1 with what:=0 },q.2))
  rw[hq2] at jl;have jy:q2.length=qs.length:=by rw[<-hq2,List.length_set]
  have hO2:Hid (∀(w1:World) ob g' bg w2,Below W1.heap.size W1 w1->w2.ownsRow D 196 16 (.slice (some ⟨g',0,none⟩) (qs.length+1) bg) (qs.length+1) (za9 q2++[.int .i64 0,.string ⟨#[93]⟩,.int .i64 0,.int .i64 0,.int .i64 0,.string ⟨#[]⟩,.string ⟨#[]⟩,.int .i64 0,.slice none 0 0,.int .u8 0,.int .i64 0,.int .i64 0,.bool false,.bool false,.bool false,.bool false])->(w1.alloc ob).grownBy w2 (Value.slice (some ⟨b,0,none⟩) qs.length cap).ownBlock->((Value.slice (some ⟨b,0,none⟩) qs.length cap).ownBlock=some g'\/g'=w1.heap.size+1)->∃qs':List (RPt × Value),qs'.length=qs.length+1/\POwn (λx=>D<=x) D qs' (.slice (some ⟨g',0,none⟩) qs'.length bg) w2/\zdc L s.data.toList p (qs'.map Prod.fst) (p+1)/\Below D w w2):=hid (λw1 ob g' bg w2 hb h1 h2 h3=>by
   have hP:=jl;rw[<-jy] at hP h1 h2 h3;have:=hP.one (np:=txtR [93]) (kv:=.slice none 0 0) hb hD1 .nil h1 h2 h3;refine⟨_,by simp[jy],this.1,.inr (.inl ⟨k,q.1,by rw[jh.out];exact hsome.out,qy.out,gy.out,?_,rfl⟩),qz.trans (this.2)⟩;rw[Qv,<-hq2,List.map_set,mh.out];rfl)
  have hown:Hid (∀(w1:World) ob,Below W1.heap.size W1 w1->(w1.alloc ob).ownsRow D 196 16 (.slice (some ⟨b,0,none⟩) qs.length cap) qs.length (za9 q2)):=hid (λw1 ob hb=>by
   have:=(jl.after (hb.alloc hb.size ob)).own;rw[jy] at this;exact this)
  have xq:=hid hW1;clear hP1 d0 f0 hB1 hW1 jl qz hs1 hq2 c14 c15;go_upto_region 9 with fail
  rw[<-xq.out];clear c0 f0';go_wp2_with fail
  refine(qp.out _).mono ?_;rintro e w1⟨rfl,hb1⟩;have jg:=hid hb1;have hw1:D<=w1.heap.size:=Qj hD1 hb1.size;clear hb1;go_wp2_with (at_builtin;refine wpList_append_lies _ (by rfl) _ _ 194 (by rfl) D 196 i0 (.agg #[.int .i64 0,.string ⟨#[]⟩,.int .i64 0,.int .i64 0,.int .i64 0,.string ⟨#[]⟩,.string ⟨#[]⟩,.int .i64 0,.slice none 0 0,.int .u8 0,.int .i64 0,.int .i64 0,.bool false,.bool false,.bool false,.bool false]) 16 144 underlying194 hi' hi0 hi1 hi2 (by rfl) (by omega) (.slice (some ⟨b,0,none⟩) qs.length cap) qs.length (za9 q2) (by rfl) (hown.out w1 _ jg.out) ⟨w1.heap.size,0,none⟩ 1 1 [.int .i64 0,.string ⟨#[93]⟩,.int .i64 0,.int .i64 0,.int .i64 0,.string ⟨#[]⟩,.string ⟨#[]⟩,.int .i64 0,.slice none 0 0,.int .u8 0,.int .i64 0,.int .i64 0,.bool false,.bool false,.bool false,.bool false] (by rfl) (by rfl) (hnew.out w1) hone.out (by omega) (by unfold maxLen;omega) (by omega) (by simp;omega) (w1.heap.size+1) (by simp) ?_)
  intro g' bg w2 hown1 hgrow hat kg;have hR:=hid (hO2.out w1 _ g' bg w2 jg.out hown1 hgrow hat);clear hown1 hgrow hat kg;go_wp2;refine bodyPost_ret (v:=.tuple #[.slice (some ⟨g',0,none⟩) (qs.length+1) bg,.int .i64 ((p:Int)+1)]) (by simp[results,results139,go_sem]) rfl ?_;obtain⟨qs',h0,h1,h2,h3⟩:=hR.out;exact⟨qs',some ⟨g',0,none⟩,bg,p+1,by rw[h0];rfl,hid ⟨h1,h2,h3⟩⟩
 have hlive:Hid (q.1.dead=false/\0<tg):=hid (by
  have:=jd.out;rw[Bool.or_eq_false_iff,decide_eq_false_iff_not] at this;exact⟨by rw[ng.out];exact this.1,by omega⟩)
 have htb:=zr4 s.data.toList (p+1) (by rw[dw.out];exact hlive.out.2);rw[dw.out,S.lda] at htb;obtain⟨kd,hkd⟩:∃kd:Int,(if qi=true then 13 else 12)=kd:=⟨_,rfl⟩
 have kr:=hid hkd;clear hkd c0 c15;go_upto_if 64 with fail
 go_cut [10] (λs10 wx=>s10=.int .i64 kd/\w=wx)
 case first=>
  cases qi
  ·have he:Hid (kd=12):=hid (by rw[<-kr.out];rfl);go_wp2;go_meet;exact⟨by rw[he.out],rfl⟩
  ·have he:Hid (kd=13):=hid (by rw[<-kr.out];rfl);go_wp2;go_meet;exact⟨by rw[he.out],rfl⟩
 case rest=>
 obtain⟨rfl,rfl⟩:=hcut;go_upto_region 13 with fail
 obtain⟨tm,yt⟩:∃tm,tg=tm+1:=⟨tg-1,by omega⟩;obtain⟨inf,wm⟩:=Qyy (s.extract (p+2) tm);have qh:Hid (inf.data.toList=(s.data.toList.take (tgt s.data.toList (p+1)-1)).drop (p+2)):=hid (by
  rw[<-wm,zd4,dw.out,yt,Nat.add_sub_cancel,List.drop_take])
 have hwt:IntKind.i64.wrap (((tm+1:Nat):Int)-1)=(tm:Int):=by rw[IntKind.wrap_i64];omega
 have zw:IntKind.i64.wrap ((p:Int)+2)=(p:Int)+2:=by rw[IntKind.wrap_i64];omega
 have zq:IntKind.i64.wrap (tm:Int)=(tm:Int):=by rw[IntKind.wrap_i64];omega
 have zn:(tm:Int)+1-1=(tm:Int):=by omega
 have zm:IntKind.i64.wrap ((tm:Int)+1-1)=(tm:Int):=by rw[IntKind.wrap_i64];omega
 have hp2t:(p:Int)+2<=(tm:Int):=by omega
 have hp2n:p+2<=tm:=by omega
 have htmn:tm<=s.size:=by omega
 have htms:(tm:Int)<=(s.size:Int):=by omega
 have hp20:(0:Int)<=(p:Int)+2:=by omega
 have yj:((p:Int)+2).toNat=p+2:=by omega
 have hkq:(k:Int)+1<=(qs.length:Int):=by omega
 have hkc:(k:Int)+1<=(cap:Int):=by omega
 have hk10:(0:Int)<=(k:Int)+1:=by omega
 have zy:IntKind.i64.wrap ((k:Int)+1)=(k:Int)+1:=by rw[IntKind.wrap_i64];omega
 have qx:Hid (∀a2 cap2,(a2=some ⟨b,(k+1)*16,none⟩\/qs.length=k+1)->qs.length-(k+1)<=cap2->∀wx,After w wx->Calls prog 140 #[.slice a2 (qs.length-(k+1)) cap2] wx λe w3=>∃va vn vc ns,e=.returned (.slice va vn vc)/\w.heap.size<=w3.heap.size/\wx.heap.size<=w3.heap.size/\Hid (RepN w3 (λx=>(D<=x/\x<w.heap.size)\/(wx.heap.size<=x/\x<w3.heap.size)) (.slice va vn vc) ns/\zeq (L.drop (k+1)) 0 ns/\Below wx.heap.size wx w3)):=hid (λa2 cap2 ha2 hc2 wx hx=>by
  have hxs:=hx.size;have hlen:(qs.drop (k+1)).length=qs.length-(k+1):=Qf;have htot:zc8 (qs.drop (k+1))<=zc8 qs:=by
   have h2:zc8 qs=zc8 (qs.take (k+1))+zc8 (qs.drop (k+1)):=by rw[<-zd7,List.take_append_drop]
   omega
  have hrow:PRow wx a2 (qs.drop (k+1)):=by
   rcases ha2 with rfl|h
   ·refine .inr ⟨b,(k+1)*16,rfl,by omega,λj x hj r u hu=>?_⟩;rw[Qn] at hj;have h9:=(dh.out.below hx).at_ (k+1+j) x hj r u hu;rw[show (k+1)*16+j*16+r=0+(k+1+j)*16+r by omega];exact h9
   ·exact .inl (Qw (by omega))
  have:=zls (λx=>(D<=x/\x<w.heap.size)\/wx.heap.size<=x) a2 cap2 (qs.drop (k+1)) wx (by rw[hlen];exact hc2) hrow (λj x hj=>by
   rw[Qn] at hj;exact(jw.out.kids _ x hj).move (λy hy=>⟨.inl ⟨hy.1,hy.2.1⟩,by omega⟩) (λy hy=>hx.block y hy.2.1)) (by rw[hlen];omega) (λj x hj=>by rw[Qn] at hj;exact hnH.out _ x hj) (λx hx=>.inr hx)
  rw[hlen] at this;refine this.mono ?_;rintro e w3⟨v,ns,rfl,hr,hpt,hb⟩;obtain⟨va,vn,vc,rfl⟩:=hr.form;have hbs:=hb.size;refine⟨va,vn,vc,ns,rfl,by omega,hbs,hid ⟨hr.move (λy hy=>by
   rcases hy.1 with h|h
   ·exact .inl h
   ·exact .inr ⟨h,hy.2⟩) (λ_ _=>rfl),?_,hb⟩⟩
  have:=hpt.out;rw[List.map_drop,mh.out] at this;exact this)
 subst yt;go_cut [11] (λs11 wx=>∃(nb:Nat) (va:Option Addr) (vn vc:Nat) (ns:List Rn),s11=.pointer (some ⟨nb,0,none⟩)/\Hid (NMid D w nb kd inf va vn vc ns wx/\zeq (L.drop (k+1)) 0 ns))
 case first=>
  by_cases hce:cap=k+1
  ·have yw:qs.length=k+1:=by omega
   have hP2:Hid (∀a2 cap2 wx,After w wx->Calls prog 140 #[.slice a2 0 cap2] wx λe w3=>∃va vn vc ns,e=.returned (.slice va vn vc)/\w.heap.size<=w3.heap.size/\wx.heap.size<=w3.heap.size/\Hid (RepN w3 (λx=>(D<=x/\x<w.heap.size)\/(wx.heap.size<=x/\x<w3.heap.size)) (.slice va vn vc) ns/\zeq (L.drop (k+1)) 0 ns/\Below wx.heap.size wx w3)):=hid (λa2 cap2 wx hx=>by
    have:=qx.out a2 cap2 (.inr yw) (by omega) wx hx;rw[show qs.length-(k+1)=0 by omega] at this;exact this)
   have hql0:qs.length-(k+1)=0:=by omega
   have hcp0:cap-(k+1)=0:=by omega
   have hce2:(cap=k+1)=True:=eq_true hce;clear qx yw hce;go_region_held3 (λ_=>True)
    (trivial)
    ((go_at_call 140;refine(hP2.out _ _ _ (by repeat (first|exact Below.refl _ _|refine Below.drew ?_|refine Below.alloc ?_ (by simp) _))).mono ?_;rintro e w3⟨va,vn,vc,ns,rfl,hz3,zl,hU⟩;obtain⟨hc3,hf3⟩:=zne hU.out.2.2))
   all_goals (go_wp2_with fail;go_meet)
   ·exact⟨_,va,vn,vc,ns,rfl,hid ⟨z5c (by repeat (first|exact Below.refl _ _|refine Below.drew ?_|refine Below.alloc ?_ (by simp) _)) hU.out.1 hU.out.2.2,hU.out.2.1⟩⟩
   ·exact⟨_,va,vn,vc,ns,rfl,hid ⟨z5b (by repeat (first|exact Below.refl _ _|refine Below.drew ?_|refine Below.alloc ?_ (by simp) _)) (by simp) (by exact za1 _ _) hU.out.1 hU.out.2.2,hU.out.2.1⟩⟩
  ·have hP2:Hid (∀wx,After w wx->Calls prog 140 #[.slice (some ⟨b,(k+1)*16,none⟩) (qs.length-(k+1)) (cap-(k+1))] wx λe w3=>∃va vn vc ns,e=.returned (.slice va vn vc)/\w.heap.size<=w3.heap.size/\wx.heap.size<=w3.heap.size/\Hid (RepN w3 (λx=>(D<=x/\x<w.heap.size)\/(wx.heap.size<=x/\x<w3.heap.size)) (.slice va vn vc) ns/\zeq (L.drop (k+1)) 0 ns/\Below wx.heap.size wx w3)):=hid (qx.out _ _ (.inl rfl) (by omega));clear qx;go_region_held3 (λ_=>True)
    (trivial)
    ((go_at_call 140;refine(hP2.out _ (by repeat (first|exact Below.refl _ _|refine Below.drew ?_|refine Below.alloc ?_ (by simp) _))).mono ?_;rintro e w3⟨va,vn,vc,ns,rfl,hz3,zl,hU⟩;obtain⟨hc3,hf3⟩:=zne hU.out.2.2))
   all_goals (go_wp2_with fail;go_meet)
   ·exact⟨_,va,vn,vc,ns,rfl,hid ⟨z5c (by repeat (first|exact Below.refl _ _|refine Below.drew ?_|refine Below.alloc ?_ (by simp) _)) hU.out.1 hU.out.2.2,hU.out.2.1⟩⟩
   ·exact⟨_,va,vn,vc,ns,rfl,hid ⟨z5b (by repeat (first|exact Below.refl _ _|refine Below.drew ?_|refine Below.alloc ?_ (by simp) _)) (by simp) (by exact za1 _ _) hU.out.1 hU.out.2.2,hU.out.2.1⟩⟩
 case rest=>
 obtain⟨nb,va,vn,vc,ns,rfl,hmid⟩:=hcut;have hbc:Below w.heap.size w wc:=hmid.out.1.below;have hwc:w.heap.size<=wc.heap.size:=hbc.size;have hnb:=hmid.out.1.lt;have hDc:D<=wc.heap.size:=by omega
 obtain⟨A1,hA1⟩:=Qyy (qs.take k);have dx:A1.length=k:=by rw[<-hA1,Ql];omega
 have yg:=hid hA1;have tq:(za9 A1).length=k*16:=by rw[zc5,dx]
 have mq:Hid (∀j x,A1[j]?=some x->qs[j]?=some x):=hid (λj x hj=>by
  rw[<-hA1,List.getElem?_take] at hj;split at hj
  ·exact hj
  ·cases hj)
 have hnew1:Hid (∀jj u,(za9 A1)[jj]?=some u->wc.cell? ((⟨b,0,none⟩:Addr).add jj)=some u):=hid (PRow.news (λj x hj jj u hu=>(dh.out.below hbc).at_ j x (mq.out j x hj) jj u hu));have jq:Hid (∀v∈za9 A1,v.oneCell'=true):=hid (λv hv=>by
  unfold za9 at hv;rw[List.mem_flatten] at hv;obtain⟨l,hl,hv⟩:=hv;rw[List.mem_map] at hl;obtain⟨x,hx,rfl⟩:=hl;obtain⟨j,hj⟩:=List.getElem?_of_mem hx;obtain⟨xa,xn,xc,hxv⟩:=(jw.out.kids j x (mq.out j x hj)).form;rw[hxv] at hv;simp only[pt16,List.mem_cons,List.not_mem_nil,or_false] at hv;rcases hv with rfl|rfl|rfl|rfl|rfl|rfl|rfl|rfl|rfl|rfl|rfl|rfl|rfl|rfl|rfl|rfl<;>rfl)
 have zh:Hid (∀v' w1,w1.ownsRow D 196 16 v' k (za9 A1)->wc.grownBy w1 (Value.slice none 0 0).ownBlock->(v'.ownBlock=(Value.slice none 0 0).ownBlock\/v'.ownBlock=some wc.heap.size)->∃a' bg,v'=.slice a' k bg/\POwn (λx=>D<=x) D A1 (.slice a' k bg) w1/\Below wc.heap.size wc w1):=hid (λv' w1 h1 h2 h3=>by
  have hb1:Below wc.heap.size wc w1:=Below.grown (Below.refl _ _) h2 (Qc _) (λq hq=>by simp[Value.ownBlock] at hq);have hform:∃a' bg,v'=.slice a' k bg:=by
   rcases h1.2 with ⟨e1,e2⟩|⟨g,c,_,e1,_⟩
   ·exact⟨none,0,by rw[e1,e2]⟩
   ·exact⟨_,_,e1⟩
  obtain⟨a',bg,rfl⟩:=hform;refine⟨a',bg,rfl,⟨by rw[dx];exact h1,λj x hj=>?_⟩,hb1⟩;have hbs:=hb1.size;refine(jw.out.kids j x (mq.out j x hj)).move (λy hy=>⟨hy.1,by omega,?_⟩) (λy hy=>by rw[hb1.block y (by omega),hbc.block y hy.2.1]);intro e;rcases h3 with h|h
  ·rw[h] at e;simp[Value.ownBlock] at e
  ·rw[h] at e;injection e with e;omega)
 have hkc2:(k:Int)<=(cap:Int):=by omega
 have gq:=hmid;have qj:=hid hbc;clear hmid hbc qx;go_wp2_with (at_builtin;refine wpList_append_own_at _ (by rfl) _ _ 194 (by rfl) D 196 i0 (.agg #[.int .i64 0,.string ⟨#[]⟩,.int .i64 0,.int .i64 0,.int .i64 0,.string ⟨#[]⟩,.string ⟨#[]⟩,.int .i64 0,.slice none 0 0,.int .u8 0,.int .i64 0,.int .i64 0,.bool false,.bool false,.bool false,.bool false]) 16 144 underlying194 hi' hi0 hi1 hi2 (by rfl) (by omega) (.slice none 0 0) 0 [] (by rfl) (World.ownsRow_nil _ _ _ _) ⟨b,0,none⟩ k cap (za9 A1) (by rfl) tq hnew1.out jq.out (by unfold maxLen;omega) (by omega) (by omega) ?_)
 intro v1 w1 hown1 hgrow1 pz lg;obtain⟨a1,bg,rfl,hP1,hb1⟩:=zh.out v1 w1 (by simpa using hown1) hgrow1 lg;have hst:Hid (POwn (λx=>D<=x) D (dz qi 0 A1) (.slice a1 k bg) w1/\Below wc.heap.size wc w1):=hid ⟨by rw[z4c];exact hP1,hb1⟩;have hab:Hid (a1.map (λx=>x.block)=none\/a1.map (λx=>x.block)=some wc.heap.size):=hid (by
  rcases lg with h|h
  ·left;cases a1 with
   | none=>rfl
   | some x=>simp[Value.ownBlock] at h
  ·right;cases a1 with
   | none=>simp[Value.ownBlock] at h
   | some x=>simpa [Value.ownBlock] using h)
 clear hown1 hgrow1 pz lg hP1 hb1 zh hnew1 jq;go_upto_region 17 with fail
 go_loopw [13] (λiv wx=>∃i:Nat,i<=k/\iv=.int .i64 (i:Nat)/\Hid (POwn (λx=>D<=x) D (dz qi i A1) (.slice a1 k bg) wx/\Below wc.heap.size wc wx)) (λiv _=>k-(intOf iv).toNat)
 case atStart=>exact⟨0,Qt _,rfl,hst⟩
 case round=>
 obtain⟨i,hi,rfl,hR⟩:=hrel;clear hst;by_cases hik:i<k
 ·have hJi:(i:Int)<(k:Int):=by omega
  obtain⟨x,hx⟩:∃x,A1[i]?=some x:=⟨A1[i],Qg (by omega)⟩;have hxg:=z1n qi i A1 x hx;obtain⟨g,hg⟩:∃g,a1=some ⟨g,0,none⟩:=by
   rcases hR.out.1.own.2 with ⟨_,h2⟩|⟨g,_,_,h1,_⟩
   ·rw[z1w,dx] at h2;omega
   ·injection h1 with h1;exact⟨g,h1⟩
  subst hg;have fq:=hR.out.1.row;have m0:wr.cell? ⟨g,i*16,none⟩=some (.int .i64 x.1.what):=by have:=fq.at_ i x hxg 0 _ rfl;rwa [Nat.zero_add] at this
  have m14:wr.cell? ⟨g,i*16+14,none⟩=some (.bool x.1.im):=by have:=fq.at_ i x hxg 14 _ rfl;rwa [Nat.zero_add] at this
  have n14:wr.cell? ⟨b,k*16+14,none⟩=some (.bool qi):=(hR.out.2.cell (p:=⟨b,k*16+14,none⟩) (by show b<wc.heap.size;omega)).trans ((qj.out.cell (p:=⟨b,k*16+14,none⟩) hbw).trans c14);have hbr:b<wr.heap.size:=by have:=hR.out.2.size;omega
  have hgr:g<wr.heap.size:=(hR.out.1.own.lt g rfl).2;have hgc:g=wc.heap.size:=by
   rcases hab.out with h|h
   ·simp at h
   ·simpa using h
  obtain⟨xw,hxw⟩:∃y,x.1.what=y:=⟨_,rfl⟩;obtain⟨xi,hxi⟩:∃y,x.1.im=y:=⟨_,rfl⟩;rw[hxw] at m0;rw[hxi] at m14;obtain⟨dd,hdd⟩:∃dd:Bool,(decide (xw=3)&&!qi&&!xi)=dd:=⟨_,rfl⟩;have gy:Hid (dd=true->zbx qi x.1 = { x.1 with dead:=true }):=hid (λh=>by
   rw[h] at hdd;simp only[Bool.and_eq_true,decide_eq_true_iff,Bool.not_eq_true'] at hdd;unfold zbx;rw[if_pos ⟨by rw[hxw];exact hdd.1.1,hdd.1.2,by rw[hxi];exact hdd.2⟩])
  have lq:Hid (dd=false->zbx qi x.1=x.1):=hid (λh=>by
   unfold zbx;rw[if_neg];rintro⟨h1,h2,h3⟩;rw[hxw] at h1;rw[hxi] at h3;rw[h] at hdd;simp[h1,h2,h3] at hdd)
  have jk:=hid hdd;have yh:=hid hx;have vk:=hid hxg;have xg:=hid hgc;clear hx hxg fq hxw hxi hdd hgc;go_upto_region 19 with fail
  go_cut [111] (λs111 wx=>s111=.bool dd/\wr=wx)
  case first=>
   by_cases h1:xw=3
   ·have e1:((xw:Int) == 3)=true:=(by rw[beq_iff_eq];exact h1);cases qi
    ·cases xi
     ·have he:Hid (dd=true):=hid (by rw[<-jk.out];simp[h1]);clear h1;go_wp2;go_meet;exact⟨by rw[he.out],rfl⟩
     ·have he:Hid (dd=false):=hid (by rw[<-jk.out];simp);clear h1;go_wp2;go_meet;exact⟨by rw[he.out],rfl⟩
    ·have he:Hid (dd=false):=hid (by rw[<-jk.out];simp);clear h1;go_wp2;go_meet;exact⟨by rw[he.out],rfl⟩
   ·have e1:((xw:Int) == 3)=false:=(by rw[Qe];exact h1);have he:Hid (dd=false):=hid (by rw[<-jk.out];simp[h1]);clear h1;go_wp2;go_meet;exact⟨by rw[he.out],rfl⟩
  case rest=>
  obtain⟨rfl,rfl⟩:=hcut;cases dd
  ·have hR2:Hid (POwn (λx=>D<=x) D (dz qi (i+1) A1) (.slice (some ⟨g,0,none⟩) k bg) wr/\Below wc.heap.size wc wr):=hid ⟨by rw[z2q qi i A1 x yh.out (lq.out rfl)];exact hR.out.1,hR.out.2⟩;clear hR;go_wp2;go_roundw
   case rel=>exact⟨i+1,by omega,by go_num,hR2⟩
   case measure=>simp[intOf];omega
  ·obtain⟨hP3,d3,f3,hB3⟩:=hR.out.1.set i 15 x ({ x.1 with dead:=true },x.2) (.bool true) vk.out (by omega) rfl rfl rfl
   have hR2:Hid (POwn (λx=>D<=x) D (dz qi (i+1) A1) (.slice (some ⟨g,0,none⟩) k bg) (wr.setCell ⟨g,i*16+15,none⟩ (.bool true))/\Below wc.heap.size wc (wr.setCell ⟨g,i*16+15,none⟩ (.bool true))):=hid ⟨by rw[zwn qi i A1 x yh.out,gy.out rfl];exact hP3,hB3 _ (by rw[xg.out];exact Qc _) _ hR.out.2⟩;have d3':wr.cell? ⟨g,i*16+15,none⟩=some (.bool x.1.dead):=d3;clear hR hP3 d3 hB3;go_wp2;go_roundw
   case rel=>exact⟨i+1,by omega,by go_num,hR2⟩
   case measure=>simp[intOf];omega
 ·have hie:i=k:=by omega
  have hJi:¬(i:Int)<(k:Int):=by omega
  obtain⟨A3,hA3⟩:=Qyy (A1.map (λx=>(zbx qi x.1,x.2)));have jm:A3.length=k:=by rw[<-hA3,List.length_map,dx]
  have hP3:POwn (λx=>D<=x) D A3 (.slice a1 A3.length bg) wr:=by
   have:=hR.out.1;rw[hie,<-dx,z5g,hA3] at this;rw[jm,<-dx];exact this
  have hb3:=hR.out.2;have hwr:wc.heap.size<=wr.heap.size:=hb3.size;have hN:=(hb3.block nb hnb).trans gq.out.1.blk;have q0:wr.cell? ⟨nb,0,none⟩=some (.int .i64 0):=za0 hN 0 _ rfl;have q1:wr.cell? ⟨nb,1,none⟩=some (.int .i64 kd):=za0 hN 1 _ rfl;have q2:wr.cell? ⟨nb,2,none⟩=some (.int .i64 0):=za0 hN 2 _ rfl;have q3:wr.cell? ⟨nb,3,none⟩=some (.string inf):=za0 hN 3 _ rfl;have q4:wr.cell? ⟨nb,4,none⟩=some (.string ⟨#[]⟩):=za0 hN 4 _ rfl;have q5:wr.cell? ⟨nb,5,none⟩=some (.int .i64 0):=za0 hN 5 _ rfl;have q6:wr.cell? ⟨nb,6,none⟩=some (.slice va vn vc):=za0 hN 6 _ rfl;have hnbr:nb<wr.heap.size:=by omega
  have hrep:RepN wr (λx=>D<=x/\x<wr.heap.size/\some x≠(Value.slice a1 A3.length bg).ownBlock) (.slice va vn vc) ns:=by
   refine gq.out.1.rep.move (λy hy=>⟨by omega,by omega,?_⟩) (λy hy=>hb3.block y (by omega));intro e;cases a1 with
   | none=>simp[Value.ownBlock] at e
   | some ad=>
    rcases hab.out with h|h
    ·simp at h
    ·simp[Value.ownBlock] at e h;omega
  have ny:Hid (∀ob,(wr.alloc ob).ownsRow D 196 16 (.slice a1 k bg) k (za9 A3)):=hid (λob=>by
   have:=(hP3.after ((Below.refl wr.heap.size wr).alloc (Qc _) ob)).own;rw[jm] at this;exact this)
  have qb:Hid (∀jj v,([.int .i64 1,.string ⟨#[]⟩,.int .i64 0,.int .i64 kd,.int .i64 0,.string inf,.string ⟨#[]⟩,.int .i64 0,.slice va vn vc,.int .u8 0,.int .i64 0,.int .i64 0,.bool false,.bool false,.bool false,.bool false]:List Value)[jj]?=some v->(wr.alloc (.cells #[.int .i64 1,.string ⟨#[]⟩,.int .i64 0,.int .i64 kd,.int .i64 0,.string inf,.string ⟨#[]⟩,.int .i64 0,.slice va vn vc,.int .u8 0,.int .i64 0,.int .i64 0,.bool false,.bool false,.bool false,.bool false] 196)).cell? ((⟨wr.heap.size,0,none⟩:Addr).add jj)=some v):=hid (λjj v hj=>World.news_of_block (za1 _ _) jj v (by exact hj));have pq:Hid (∀v∈([.int .i64 1,.string ⟨#[]⟩,.int .i64 0,.int .i64 kd,.int .i64 0,.string inf,.string ⟨#[]⟩,.int .i64 0,.slice va vn vc,.int .u8 0,.int .i64 0,.int .i64 0,.bool false,.bool false,.bool false,.bool false]:List Value),v.oneCell'=true):=hid (by
   intro v hv;simp only[List.mem_cons,List.not_mem_nil,or_false] at hv;rcases hv with rfl|rfl|rfl|rfl|rfl|rfl|rfl|rfl|rfl|rfl|rfl|rfl|rfl|rfl|rfl|rfl<;>rfl)
  have yc:Hid (∀ob g' cap2 w2,w2.ownsRow D 196 16 (.slice (some ⟨g',0,none⟩) (k+1) cap2) (k+1) (za9 A3++[.int .i64 1,.string ⟨#[]⟩,.int .i64 0,.int .i64 kd,.int .i64 0,.string inf,.string ⟨#[]⟩,.int .i64 0,.slice va vn vc,.int .u8 0,.int .i64 0,.int .i64 0,.bool false,.bool false,.bool false,.bool false])->(wr.alloc ob).grownBy w2 (Value.slice a1 k bg).ownBlock->((Value.slice a1 k bg).ownBlock=some g'\/g'=wr.heap.size+1)->∃qs':List (RPt × Value),qs'.length=k+1/\POwn (λx=>D<=x) D qs' (.slice (some ⟨g',0,none⟩) qs'.length cap2) w2/\zdc L s.data.toList p (qs'.map Prod.fst) (tm+1)/\Below D w w2):=hid (λob g' cap2 w2 h1 h2 h3=>by
   have e:pt16 (zd6 (.nd kd 0 inf.data.toList [] 0 ns)) (.slice va vn vc)=[.int .i64 1,.string ⟨#[]⟩,.int .i64 0,.int .i64 kd,.int .i64 0,.string inf,.string ⟨#[]⟩,.int .i64 0,.slice va vn vc,.int .u8 0,.int .i64 0,.int .i64 0,.bool false,.bool false,.bool false,.bool false]:=by
    unfold pt16 zd6;simp only[Rn.info,S.zbp];rfl
   rw[<-e] at h1;rw[<-jm] at h1 h2 h3;have:=hP3.one (np:=zd6 (.nd kd 0 inf.data.toList [] 0 ns)) (kv:=.slice va vn vc) (Below.refl _ _) (by omega) hrep h1 h2 h3;refine⟨_,by simp[jm],this.1,.inr (.inr ⟨k,q.1,ns,by rw[jh.out];exact hsome.out,qy.out,hlive.out.1,by rw[dw.out];exact hlive.out.2,gq.out.2,?_,dw.out.symm⟩),(qj.out.mono hD).trans ((hb3.mono hDc).trans this.2)⟩;rw[Qv,<-hA3,List.map_map,<-qh.out,vw.out,kr.out,<-mh.out,<-List.map_take,yg.out,List.map_map];rfl)
  have hNH:=hid hN;clear hP3 hb3 hN hrep hR hA3;go_wp2_with (at_builtin;refine wpList_append_lies _ (by rfl) _ _ 194 (by rfl) D 196 i0 (.agg #[.int .i64 0,.string ⟨#[]⟩,.int .i64 0,.int .i64 0,.int .i64 0,.string ⟨#[]⟩,.string ⟨#[]⟩,.int .i64 0,.slice none 0 0,.int .u8 0,.int .i64 0,.int .i64 0,.bool false,.bool false,.bool false,.bool false]) 16 144 underlying194 hi' hi0 hi1 hi2 (by rfl) (by omega) (.slice a1 k bg) k (za9 A3) (by rfl) (ny.out _) ⟨wr.heap.size,0,none⟩ 1 1 [.int .i64 1,.string ⟨#[]⟩,.int .i64 0,.int .i64 kd,.int .i64 0,.string inf,.string ⟨#[]⟩,.int .i64 0,.slice va vn vc,.int .u8 0,.int .i64 0,.int .i64 0,.bool false,.bool false,.bool false,.bool false] (by rfl) (by rfl) qb.out pq.out (by omega) (by unfold maxLen;omega) (by omega) (by simp;omega) (wr.heap.size+1) (by simp) ?_)
  intro g' cap2 w2 hown2 hgrow2 qm qg;have hR2:=hid (yc.out _ g' cap2 w2 hown2 hgrow2 qm);clear hown2 hgrow2 qm qg;go_wp2;refine bodyPost_ret (v:=.tuple #[.slice (some ⟨g',0,none⟩) (k+1) cap2,.int .i64 ((tm:Int)+1)]) (by simp[results,results139,go_sem]) rfl ?_;obtain⟨qs',h0,h1,h2,h3⟩:=hR2.out;exact⟨qs',some ⟨g',0,none⟩,cap2,tm+1,by rw[h0];rfl,hid ⟨h1,h2,h3⟩⟩
def spB (t:List UInt8)(i:Nat):Nat:=S.cnt 32 (t.take i).reverse
theorem zpg (t:List UInt8)(i:Nat)(c:UInt8)(h:t[i]?=some c):spB t (i+1)=if c=32 then spB t i+1 else 0:=by
 unfold spB;rw[List.take_add_one,h,Option.toList_some,List.reverse_append,List.reverse_singleton,List.singleton_append];simp only[S.cnt]
theorem ze5 (t:List UInt8)(i:Nat)(c:UInt8)(h:t[i]?=some c)(hc:c≠32):spB t (i+1)=0:=by rw[zpg t i c h,if_neg hc]
def zk2 (l:List UInt8)(im:Bool):RPt:=⟨3,l,zqu,0,0,0,false,false,im,false⟩
def zh4 (k:Int)(t:List UInt8):RPt:=zd6 (.nd k 0 [] t 0 [])
def zpl (a:List UInt8):RPt:=zd6 (.nd 12 0 a [] 0 [.nd 8 0 [] a 0 []])
def zgu (t:List UInt8)(l:List RPt)(i:Nat)(l':List RPt)(i':Nat):Prop:=∃c,t[i]?=some c /\
 (if c=92/\t[i+1]?=some 10 then l'=l++[zh4 10 []]/\i'=i+2
 else if c=92/\(t[i+1]?.map S.mark)=some true then l'=l++[txtR ((t.drop (i+1)).take 1)]/\i'=i+2
 else if c=96 then (if 0<grv t i then l'=l++[zh4 11 (znd ((t.drop (i+S.cnt 96 (t.drop i))).take (grv t i-S.cnt 96 (t.drop i)-(i+S.cnt 96 (t.drop i)))))]/\i'=grv t i else l'=l++[txtR ((t.drop i).take (S.cnt 96 (t.drop i)))]/\i'=i+S.cnt 96 (t.drop i))
 else if c=60/\0<ang t i then l'=l++[zpl ((t.drop (i+1)).take (ang t i-1-(i+1)))]/\i'=ang t i
 else if c=10 then l'=l.take (l.length-spB t i)++[zh4 (if 2<=spB t i then 10 else 9) []]/\i'=i+1
 else if c=42\/c=95 then l'=l++[runR t i]/\i'=i+S.same (t.drop i)
 else if c=91 then l'=l++[zk2 [91] false]/\i'=i+1
 else if c=33/\t[i+1]?=some 91 then l'=l++[zk2 [33,91] true]/\i'=i+2
 else if c=93 then zdc l t i l' i'
 else l'=l++[txtR ((t.drop i).take 1)]/\i'=i+1)
inductive WTo (t:List UInt8):List RPt->Nat->List Rn->Prop
 | done (l:List RPt) (i:Nat) (ns:List Rn) (h:t.length<=i) (hp:zeq l 0 ns):WTo t l i ns
 | step (l:List RPt) (i:Nat) (l':List RPt) (i':Nat) (ns:List Rn) (hs:zgu t l i l' i') (hr:WTo t l' i' ns):WTo t l i ns
structure WL (w:World)(t:List UInt8)(qs:List (RPt × Value))(i:Nat)(a:Option Addr)(cap:Nat)(wr:World):Prop where
 own:POwn (λx=>w.heap.size<=x) w.heap.size qs (.slice a qs.length cap) wr
 len:qs.length<=i
 tot:zc8 qs<=i
 nums:∀(j:Nat) (p:RPt × Value),qs[j]?=some p->p.1.n<=1000000
 sp:spB t i<=qs.length
 toL:∀ns,WTo t (qs.map Prod.fst) i ns->WTo t [] 0 ns
 below:Below w.heap.size w wr
theorem WL.start (w:World)(t:List UInt8):WL w t [] 0 none 0 w:=⟨POwn.nil _ _ _,Qc _,Qc _,λj p h=>by simp at h,by simp[spB,S.cnt],λ_ h=>h,Below.refl _ _⟩
theorem WL.push {w wr w1 w2:World}{t:List UInt8}{qs:List (RPt × Value)}{i i':Nat}{a:Option Addr}{cap g cap1:Nat}{ob:Obj}{np:RPt}{kv:Value}(h:WL w t qs i a cap wr)(hs:zgu t (qs.map Prod.fst) i (qs.map Prod.fst++[np]) i')(hi:i+1<=i')(hsz:np.s.length+np.left<=i' - i)(hn:np.n<=1000000)(hsp:spB t i'<=qs.length+1)
  (hb:Below wr.heap.size wr w1) (hrep:RepN w1 (λx=>wr.heap.size<=x/\x<w1.heap.size) kv np.node.kids) (ho:w2.ownsRow w.heap.size 196 16 (.slice (some ⟨g,0,none⟩) (qs.length+1) cap1) (qs.length+1) (za9 qs++pt16 np kv)) (hg:(w1.alloc ob).grownBy w2 (Value.slice a qs.length cap).ownBlock) (hat:(Value.slice a qs.length cap).ownBlock=some g\/g=w1.heap.size+1) :
  ∃qs',qs'.length=qs.length+1/\WL w t qs' i' (some ⟨g,0,none⟩) cap1 w2:=by
 have hw:=h.below.size;obtain⟨h1,h2⟩:=h.own.one (np:=np) (kv:=kv) hb hw (hrep.move (λx hx=>⟨by omega,hx.2,λe=>by have:=h.own.own.lt x e.symm;omega⟩) (λ_ _=>rfl)) ho hg hat;refine⟨_,by simp,h1,by have:=h.len;simp;omega,?_,?_,by simpa using hsp,λns hns=>h.toL ns (.step _ _ _ _ _ hs (by rw[Qv] at hns;exact hns)),h.below.trans h2⟩
 ·rw[zd7,zef];have:=h.tot;have e:zc8 ([]:List (RPt × Value))=0:=rfl;rw[e];show zc8 qs+(np.s.length+np.left+0)<=i';omega
 ·intro j p hj;by_cases hjl:j<qs.length
  ·rw[Qbd hjl] at hj;exact h.nums j p hj
  ·rw[Qu (by omega)] at hj;have hj0:j-qs.length=0:=by have:=(Qb.1 hj).1;simp at this;omega
   rw[hj0] at hj;simp at hj;subst hj;exact hn
end Go.Proofs.YtlojgpkajkedeaaGreatDoor
