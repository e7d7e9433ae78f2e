import Derived.Test.YtlojgpkajkedeaaGreatDoorME24
import Derived.Test.YtlojgpkajkedeaaGreatDoorMRZ
import Derived.Test.YtlojgpkajkedeaaGreatDoorMTF
import Derived.Test.YtlojgpkajkedeaaGreatDoorMTH
namespace Go.Proofs.YtlojgpkajkedeaaGreatDoor
open Go.RowKit
mutual
def toRn:Pt→Rn
 | .mk k i t kids _ _ _=>.nd k 0 i t 0 (zf1 kids)
def zf1:List Pt→List Rn
 | []=>[]
 | p::r=>toRn p::zf1 r
end
theorem zjl (p:Pt) (r:List Pt):zf1 (p::r)=toRn p::zf1 r:=by simp only[zf1]
theorem zsg (p:Pt):toRn p = .nd p.kind 0 p.info p.text 0 (zf1 p.kids):=by cases p;simp only[toRn];rfl
inductive Am where
 | b (c:UInt8)
 | run (c:UInt8) (left n:Nat) (op cl:Bool)
 | nd (n:Rn)
def zdu:List Am→List UInt8→List Rn
 | [],t=>zhh t
 | .b c::r,t=>zdu r (t++[c])
 | .run c left _ _ _::r,t=>zdu r (t++List.replicate left c)
 | .nd n::r,t=>zhh t++n::zdu r []
def runA (c:UInt8) (left n:Nat) (op cl:Bool):List Am:=if left=0 then [] else if op=false∧cl=false then List.replicate left (.b c) else [.run c left n op cl]
theorem zgb (u:List UInt8) (r:List Am) (t:List UInt8):zdu (u.map Am.b++r) t=zdu r (t++u):=by
 induction u generalizing t with
 | nil=>simp
 | cons c u ih=>simp only[List.map_cons,List.cons_append,zdu];rw[ih];simp
theorem zne (c:UInt8) (left n:Nat) (op cl:Bool) (r:List Am) (t:List UInt8):zdu (runA c left n op cl++r) t=zdu r (t++List.replicate left c):=by
 unfold runA
 split
 ·rename_i h;subst h;simp
 ·split
  ·rw[← List.map_replicate,zgb]
  ·rfl
def amR (p:RPt):List Am:=if p.what=1 then [.nd p.node] else p.s.map Am.b++runA p.c p.left p.n p.op p.cl
def amsR (l:List RPt):List Am:=l.flatMap amR
theorem ze8 (a b:List RPt):amsR (a++b)=amsR a++amsR b:=by simp[amsR]
theorem zdx (p:RPt) (r:List RPt):amsR (p::r)=amR p++amsR r:=by simp[amsR]
theorem zk9:amsR []=[]:=rfl
theorem zsi (l:List RPt) (t:List UInt8):zd6 l t=zdu (amsR l) t:=by
 induction l generalizing t with
 | nil=>rfl
 | cons p r ih=>
  simp only[zd6]
  rw[zdx]
  unfold amR
  split
  ·rw[ih];rfl
  ·rw[ih,List.append_assoc (p.s.map Am.b),zgb,zne]
def WfR (p:RPt):Prop:=(p.what=2∧p.s=[])∨p.what=1∨(p.what≠1∧p.what≠2∧p.left=0)
def amP (p:Pt):List Am:=if p.kind=8 then (if p.ro=false∧p.rc=false then p.text.map Am.b else runA (p.text.headD 0) p.text.length p.rs p.ro p.rc) else [.nd (toRn p)]
def amsP (l:List Pt):List Am:=l.flatMap amP
theorem ze9 (a b:List Pt):amsP (a++b)=amsP a++amsP b:=by simp[amsP]
theorem ze5 (p:Pt) (r:List Pt):amsP (p::r)=amP p++amsP r:=by simp[amsP]
theorem zsp:amsP []=[]:=rfl
theorem zfz (p:Pt):amsP [p]=amP p:=by simp[amsP]
def WfP (p:Pt):Prop:=(p.kind=8∧p.info=[]∧p.kids=[]∧((p.ro=false∧p.rc=false)∨∃ c,p.text=List.replicate p.text.length c))∨(¬ p.kind=8∧p.ro=false∧p.rc=false)
def WfPs (l:List Pt):Prop:=∀ p∈l,WfP p
theorem zn4 (p:Pt) (h:WfP p) (h8:p.kind=8) (r:List Am) (t:List UInt8):zdu (amP p++r) t=zdu r (t++p.text):=by
 unfold amP
 rw[if_pos h8]
 rcases h with ⟨_,_,_,h⟩|⟨h,_⟩
 ·split
  ·exact zgb _ _ _
  ·rename_i hn
   rcases h with h|⟨c,h⟩
   ·exact absurd h hn
   ·rw[zne]
    congr 2
    rw[h]
    cases p.text.length with
    | zero=>rfl
    | succ n=>simp[List.replicate_succ]
 ·exact absurd h8 h
theorem zzr (f:Nat):(∀ r:List Pt,r.length≤f→WfPs r→zf1 (zdr f r)=zdu (amsP r) []) ∧
  (∀ (p:Pt) (r:List Pt),r.length+1≤f→p.kind=8→p.info=[]→p.kids=[]→WfPs r→zf1 (zdr f (p::r))=zdu (amsP r) p.text):=by
 induction f with
 | zero=>
  refine ⟨fun r hr _=>?_,fun p r hr=>by omega⟩
  have:r=[]:=List.length_eq_zero_iff.1 (by omega)
  subst this;rfl
 | succ f ih=>
  have h1:∀ (p:Pt) (r:List Pt),r.length+1≤f+1→p.kind=8→p.info=[]→p.kids=[]→WfPs r→zf1 (zdr (f+1) (p::r))=zdu (amsP r) p.text:=by
   intro p r hr h8 hi hk hw
   simp only[zdr]
   rw[if_pos h8]
   have hrn:toRn p = .nd 8 0 [] p.text 0 []:=by rw[zsg,h8,hi,hk];simp only[zf1]
   split
   ·rename_i ht
    rw[ht]
    exact ih.1 r (by omega) hw
   ·rename_i ht
    have hfl:zhh p.text=[.nd 8 0 [] p.text 0 []]:=by unfold zhh;rw[if_neg ht]
    cases r with
    | nil=>
     rw[zjl,hrn]
     simp only[zsp,zdu,zf1]
     exact hfl.symm
    | cons q r'=>
     have hwq:=hw q (List.mem_cons_self ..)
     have hwr:WfPs r':=fun x hx=>hw x (List.mem_cons_of_mem _ hx)
     dsimp only
     rw[ze5]
     split
     ·rename_i hq
      rw[zn4 q hwq hq]
      have hq2:=hwq
      rcases hq2 with ⟨_,h2,h3,_⟩|⟨h,_⟩
      ·rw[ih.2 (q.za4 (p.text++q.text)) r' (by simpa using hr) hq h2 h3 hwr]
       rfl
      ·exact absurd hq h
     ·rename_i hq
      rw[zjl,ih.1 (q::r') (by simpa using hr) hw,ze5]
      unfold amP
      rw[if_neg hq,hrn]
      simp only[List.singleton_append,zdu]
      rw[hfl]
      rfl
  refine ⟨fun r hr hw=>?_,h1⟩
  cases r with
  | nil=>rfl
  | cons p r=>
   have hwp:=hw p (List.mem_cons_self ..)
   have hwr:WfPs r:=fun x hx=>hw x (List.mem_cons_of_mem _ hx)
   by_cases h8:p.kind=8
   ·have hwp2:=hwp
    rcases hwp2 with ⟨_,h2,h3,_⟩|⟨h,_⟩
    ·rw[h1 p r (by simpa using hr) h8 h2 h3 hwr,ze5,zn4 p hwp h8];rfl
    ·exact absurd h8 h
   ·rw[zl4 f p r h8,zjl,ih.1 r (by simpa using hr) hwr,ze5]
    unfold amP
    rw[if_neg h8]
    rfl
theorem zv8 (l:List Pt) (h:WfPs l):zf1 (zfm l)=zdu (amsP l) []:=(zzr l.length).1 l (Nat.le_refl _) h
def zky:Am→Bool
 | .run _ _ _ _ cl=>cl
 | _=>false
def zmz (s p:Am):Bool:=match s,p with
 | .run sc _ sn so _,.run c _ n op cl=>op && (decide (c=sc) && S.fits n cl sn so)
 | _,_=>false
def zfk (s:Am):List Am→Option (List Am × Am × List Am)
 | []=>none
 | p::r=>match zfk s r with
  | some (l1,x,m)=>some (p::l1,x,m)
  | none=>if zmz s p=true then some ([],p,r) else none
def z0d:Am→Nat
 | .run _ left _ _ _=>left
 | _=>0
def zA (x s:Am):Nat:=if 1<z0d x∧1<z0d s then 2 else 1
def zvh (z:Nat):Am→List Am
 | .run c left n op cl=>runA c (left-z) n op cl
 | a=>[a]
def zw1 (z:Nat) (m:List Am):Am:=.nd (.nd (if z=2 then 15 else 14) 0 [] [] 0 (zdu m []))
inductive PA:List Am→List Am→List Am→Prop
 | done (L:List Am):PA L [] L
 | pass (L:List Am) (a:Am) (r res:List Am) (h:zky a=false∨zfk a L=none) (hr:PA (L++[a]) r res):PA L (a::r) res
 | pair (L:List Am) (a:Am) (r res l1:List Am) (x:Am) (m:List Am) (hc:zky a=true) (h:zfk a L=some (l1,x,m)) (hr:PA (l1++zvh (zA x a) x++[zw1 (zA x a) m]) (zvh (zA x a) a++r) res):PA L (a::r) res
theorem PA.det {L r res res2:List Am} (h:PA L r res) (h2:PA L r res2):res=res2:=by
 induction h with
 | done L=>cases h2;rfl
 | pass L a r res h hr ih=>
  cases h2 with
  | pass _ _ _ _ _ hr2=>exact ih hr2
  | pair _ _ _ _ l1 x m hc h3 hr2=>
   rcases h with h|h
   ·rw[hc] at h;cases h
   ·rw[h] at h3;cases h3
 | pair L a r res l1 x m hc h hr ih=>
  cases h2 with
  | pass _ _ _ _ h3 hr2=>
   rcases h3 with h3|h3
   ·rw[hc] at h3;cases h3
   ·rw[h] at h3;cases h3
  | pair _ _ _ _ l1' x' m' hc' h3 hr2=>
   rw[h] at h3
   cases h3
   exact ih hr2
theorem PA.passes (xs:List Am) (L r res:List Am) (h:∀ a∈xs,zky a=false) (hr:PA (L++xs) r res):PA L (xs++r) res:=by
 induction xs generalizing L with
 | nil=>simpa using hr
 | cons a xs ih=>
  refine PA.pass L a _ res (.inl (h a (List.mem_cons_self ..))) (ih _ (fun x hx=>h x (List.mem_cons_of_mem _ hx)) ?_)
  rw[List.append_assoc];exact hr
theorem zna (s:Am) (l:List Am) (h:∀ x∈l,zmz s x=false):zfk s l=none:=by
 induction l with
 | nil=>rfl
 | cons p r ih=>simp only[zfk];rw[ih (fun x hx=>h x (List.mem_cons_of_mem _ hx))];simp[h p (List.mem_cons_self ..)]
theorem zkm (s:Am) (a b l1 m:List Am) (x:Am) (h:zfk s b=some (l1,x,m)):zfk s (a++b)=some (a++l1,x,m):=by
 induction a with
 | nil=>exact h
 | cons p r ih=>simp only[List.cons_append,zfk];rw[ih]
theorem zmv (s:Am) (a b:List Am) (h:zfk s b=none):zfk s (a++b)=(zfk s a).map (fun v=>(v.1,v.2.1,v.2.2++b)):=by
 induction a with
 | nil=>simp[zfk,h]
 | cons p r ih=>
  simp only[List.cons_append,zfk]
  rw[ih]
  cases hr:zfk s r with
  | none=>
   simp only[Option.map_none]
   split <;> rfl
  | some v=>obtain ⟨l1,x,m⟩:=v;rfl
theorem zod (s:Am) (c:UInt8):zmz s (.b c)=false:=by cases s <;> rfl
theorem zp7 (s:Am) (n:Rn):zmz s (.nd n)=false:=by cases s <;> rfl
theorem zka (c:UInt8) (left n:Nat) (op cl:Bool) (h:0<left) (hc:op=true∨cl=true):runA c left n op cl=[.run c left n op cl]:=by
 unfold runA
 rw[if_neg (by omega),if_neg]
 rintro ⟨h1,h2⟩
 rcases hc with hc|hc
 ·rw[h1] at hc;cases hc
 ·rw[h2] at hc;cases hc
theorem zfj (c:UInt8) (n:Nat) (op cl:Bool):runA c 0 n op cl=[]:=by unfold runA;rw[if_pos rfl]
theorem zm3 (c:UInt8) (left n:Nat) (op:Bool):∀ a∈runA c left n op false,zky a=false:=by
 intro a ha
 unfold runA at ha
 split at ha
 ·simp at ha
 ·split at ha
  ·rw[List.mem_replicate] at ha;rw[ha.2];rfl
  ·simp at ha;rw[ha];rfl
theorem zjv (u:List UInt8):∀ a∈u.map Am.b,zky a=false:=by
 intro a ha
 rw[List.mem_map] at ha
 obtain ⟨c,_,rfl⟩:=ha
 rfl
theorem zos (q s:RPt) (h1:q.op=true) (h2:s.cl=true):zvu q s=S.fits q.n q.cl s.n s.op:=by
 unfold zvu S.fits
 rw[h1,h2]
 cases q.cl <;> cases s.op <;> simp[Bool.or_comm]
theorem zvn (q s:RPt) (hq:WfR q) (hs:s.cl=true) (c:UInt8) (hc:s.c=c) (left n:Nat) (op:Bool) (hn:s.n=n) (ho:s.op=op):zfk (.run c left n op true) (amR q)=if ze0 q s=true then some ([],.run q.c q.left q.n q.op q.cl,[]) else none:=by
 by_cases hof:ze0 q s=true
 ·rw[if_pos hof]
  unfold ze0 at hof
  simp only[Bool.and_eq_true,decide_eq_true_iff] at hof
  obtain ⟨⟨⟨⟨h1,h2⟩,h3⟩,h4⟩,h5⟩:=hof
  have hs0:q.s=[]:=by
   rcases hq with h|h|h
   ·exact h.2
   ·omega
   ·exact absurd h1 h.2.1
  unfold amR
  rw[if_neg (by omega),hs0,zka _ _ _ _ _ h4 (.inl h3)]
  have ho2:zmz (.run c left n op true) (.run q.c q.left q.n q.op q.cl)=true:=by
   show (q.op && (decide (q.c=c) && S.fits q.n q.cl n op))=true
   rw[← hn,← ho,← zos q s h3 hs,h5,h3,h2,hc];simp
  simp only[List.map_nil,List.nil_append,zfk]
  rw[if_pos ho2]
 ·rw[if_neg hof]
  refine zna _ _ (fun x hx=>?_)
  unfold amR at hx
  split at hx
  ·simp at hx;rw[hx];exact zp7 _ _
  ·rename_i hw
   rw[List.mem_append] at hx
   rcases hx with hx|hx
   ·rw[List.mem_map] at hx
    obtain ⟨c,_,rfl⟩:=hx
    exact zod _ _
   ·unfold runA at hx
    split at hx
    ·simp at hx
    ·rename_i hl
     split at hx
     ·rw[List.mem_replicate] at hx;rw[hx.2];exact zod _ _
     ·simp at hx
      rw[hx]
      have hw2:q.what=2:=by
       rcases hq with h|h|h
       ·exact h.1
       ·exact absurd h hw
       ·exact absurd h.2.2 hl
      show (q.op && (decide (q.c=c) && S.fits q.n q.cl n op))=false
      cases hqo:q.op with
      | false=>rfl
      | true=>
       have hl':0<q.left:=by omega
       unfold ze0 at hof
       rw[zos q s hqo hs,hc,hn,ho] at hof
       simp only[hw2,hqo,hl',decide_true,Bool.true_and,Bool.and_true] at hof
       simpa using hof
theorem zu1 (l:List RPt) (s:RPt) (hl:∀ p∈l,WfR p) (hs:s.cl=true) (k:Nat) (hk:k≤l.length) :
  zfk (.run s.c s.left s.n s.op true) (amsR (l.take k))=match zbn l s k with
   | none=>none
   | some j=>match l[j]? with
    | some q=>some (amsR (l.take j),.run q.c q.left q.n q.op q.cl,amsR ((l.take k).drop (j+1)))
    | none=>none:=by
 induction k with
 | zero=>rfl
 | succ k ih=>
  obtain ⟨q,hq⟩:∃ q,l[k]?=some q:=⟨l[k],List.getElem?_eq_getElem (by omega)⟩
  have ht:l.take (k+1)=l.take k++[q]:=by rw[List.take_add_one,hq];rfl
  have h1:=zvn q s (hl q (List.mem_of_getElem? hq)) hs s.c rfl s.left s.n s.op rfl rfl
  have ha:amsR (l.take (k+1))=amsR (l.take k)++amR q:=by rw[ht,ze8];simp[amsR]
  rw[ha]
  simp only[zbn,hq]
  by_cases hof:ze0 q s=true
  ·rw[if_pos hof] at h1 ⊢
   rw[zkm _ _ _ _ _ _ h1]
   dsimp only
   rw[hq,List.append_nil]
   dsimp only
   rw[ht,List.drop_eq_nil_of_le (by rw[List.length_append,List.length_take,List.length_singleton];omega),zk9]
  ·rw[if_neg hof] at h1 ⊢
   rw[zmv _ _ _ h1,ih (by omega)]
   cases hf:zbn l s k with
   | none=>rfl
   | some j=>
    have hj:=(zg6 l s k j hf).1
    dsimp only
    cases hqj:l[j]? with
    | none=>rfl
    | some q2=>
     simp only[Option.map_some]
     rw[ht,List.drop_append_of_le_length (by rw[List.length_take];omega),ze8]
     simp[amsR]
theorem zsy (q:RPt) (z:Nat) (h:WfR q):WfR (zfh q z):=by
 rcases h with h|h|h
 ·exact .inl h
 ·exact .inr (.inl h)
 ·refine .inr (.inr ⟨h.1,h.2.1,?_⟩)
  show q.left-z=0
  omega
theorem zsz (q:RPt) (z:Nat) (h:q.what=2) (hs:q.s=[]):amR (zfh q z)=zvh z (.run q.c q.left q.n q.op q.cl):=by
 unfold amR
 have h1:¬ (zfh q z).what=1:=by show ¬ q.what=1;omega
 rw[if_neg h1]
 show q.s.map Am.b++_=_
 rw[hs]
 rfl
theorem ze7.ams {l:List RPt} {i:Nat} {ns:List Rn} (h:ze7 l i ns) (hi:i≤l.length) (hl:∀ p∈l,WfR p):∃ res,PA (amsR (l.take i)) (amsR (l.drop i)) res∧ns=zdu res []:=by
 induction h with
 | done l i h=>
  refine ⟨amsR l,?_,zsi l []⟩
  rw[List.take_of_length_le h,List.drop_eq_nil_of_le h]
  exact PA.done _
 | step l i ns h hr ih=>
  obtain ⟨s,hs⟩:∃ s,l[i]?=some s:=⟨l[i],List.getElem?_eq_getElem h⟩
  have hws:=hl s (List.mem_of_getElem? hs)
  have hd:l.drop i=s::l.drop (i+1):=by
   rw[List.drop_eq_getElem_cons h]
   congr 1
   rw[List.getElem?_eq_getElem h] at hs
   exact Option.some.inj hs
  have ht:amsR (l.take (i+1))=amsR (l.take i)++amR s:=by rw[List.take_add_one,hs,ze8];simp[amsR]
  rw[hd,zdx]
  by_cases hc:s.what=2∧s.cl=true∧0<s.left
  ·have hs0:s.s=[]:=by
    rcases hws with h|h|h
    ·exact h.2
    ·omega
    ·exact absurd hc.1 h.2.1
   have ham:amR s=[.run s.c s.left s.n s.op true]:=by
    unfold amR
    rw[if_neg (by omega),hs0,hc.2.1,zka _ _ _ _ _ hc.2.2 (.inr rfl)];rfl
   have hL:=zu1 l s hl hc.2.1 i hi
   cases hf:zbn l s i with
   | none=>
    have hp:ze4 l i=(l,i+1):=zg3 l i s hs (by rw[if_pos hc];exact hf)
    rw[hp] at ih
    obtain ⟨res,h1,h2⟩:=ih h hl
    rw[hf] at hL
    refine ⟨res,?_,h2⟩
    rw[ham]
    refine PA.pass _ _ _ _ (.inr hL) ?_
    rw[← ham,← ht];exact h1
   | some j=>
    obtain ⟨hji,q,hq,hop⟩:=zg6 l s i j hf
    have hp:ze4 l i=(zk3 l j i q s,j+2):=ziw l i j s q hs (by rw[if_pos hc];exact hf) hq
    rw[hp] at ih
    rw[hf] at hL
    dsimp only at hL
    rw[hq] at hL
    dsimp only at hL
    have hwq:=hl q (List.mem_of_getElem? hq)
    unfold ze0 at hop
    simp only[Bool.and_eq_true,decide_eq_true_iff] at hop
    have hq0:q.s=[]:=by
     rcases hwq with h|h|h
     ·exact h.2
     ·omega
     ·exact absurd hop.1.1.1.1 h.2.1
    have hlj:(l.take j).length=j:=by rw[List.length_take];omega
    obtain ⟨res,h1,h2⟩:=ih (by
     unfold zk3
     rw[List.length_append,hlj]
     simp only[List.length_cons];omega) (by
     intro p hp
     unfold zk3 at hp
     rw[List.mem_append,List.mem_cons,List.mem_cons,List.mem_cons] at hp
     rcases hp with hp|hp|hp|hp|hp
     ·exact hl p (List.mem_of_mem_take hp)
     ·rw[hp];exact zsy q _ hwq
     ·rw[hp];exact .inr (.inl rfl)
     ·rw[hp];exact zsy s _ hws
     ·exact hl p (List.mem_of_mem_drop hp))
    refine ⟨res,?_,h2⟩
    rw[ham]
    refine PA.pair _ _ _ _ _ _ _ rfl hL ?_
    have hz:zA (.run q.c q.left q.n q.op q.cl) (.run s.c s.left s.n s.op true)=zds q s:=by
     unfold zA zds z0d
     dsimp only
     by_cases h2:2≤s.left∧2≤q.left
     ·rw[if_pos h2,if_pos (by omega)]
     ·rw[if_neg h2,if_neg (by omega)]
    rw[hz]
    have e1:(zk3 l j i q s).take (j+2)=l.take j++[zfh q (zds q s),zcx (zhx (zds q s) ((l.take i).drop (j+1)))]:=by
     unfold zk3
     rw[List.take_append,hlj,List.take_of_length_le (by omega),show j+2-j=2 from by omega];rfl
    have e2:(zk3 l j i q s).drop (j+2)=zfh s (zds q s)::l.drop (i+1):=by
     unfold zk3
     rw[List.drop_append,hlj,List.drop_eq_nil_of_le (by omega),show j+2-j=2 from by omega];rfl
    rw[e1,e2,ze8,zdx,zdx,zk9,zdx,zsz q _ hop.1.1.1.1 hq0,zsz s _ hc.1 hs0] at h1
    have e3:amR (zcx (zhx (zds q s) ((l.take i).drop (j+1))))=[zw1 (zds q s) (amsR ((l.take i).drop (j+1)))]:=by
     unfold amR
     rw[if_pos (show (zcx (zhx (zds q s) ((l.take i).drop (j+1)))).what=1 from rfl)]
     unfold zcx zhx zw1
     rw[zsi]
    rw[e3,hc.2.1,List.append_nil,← List.append_assoc] at h1
    exact h1
  ·have hp:ze4 l i=(l,i+1):=zg3 l i s hs (by rw[if_neg hc])
   rw[hp] at ih
   obtain ⟨res,h1,h2⟩:=ih h hl
   refine ⟨res,PA.passes _ _ _ _ ?_ (by rw[← ht];exact h1),h2⟩
   intro a ha
   unfold amR at ha
   split at ha
   ·simp at ha;rw[ha];rfl
   ·rename_i hw1
    rw[List.mem_append] at ha
    rcases ha with ha|ha
    ·exact zjv _ a ha
    ·rcases hws with h|h|h
     ·cases hcl:s.cl with
      | false=>rw[hcl] at ha;exact zm3 _ _ _ _ a ha
      | true=>
       have h0:s.left=0:=by
        rcases Nat.eq_zero_or_pos s.left with h0|h0
        ·exact h0
        ·exact absurd ⟨h.1,hcl,h0⟩ hc
       rw[h0,zfj] at ha;simp at ha
     ·exact absurd h hw1
     ·rw[h.2.2,zfj] at ha;simp at ha
theorem zkd (p:Pt) (h:WfP p) (ho:p.ro=true∨p.rc=true) (ht:p.text≠[]):amP p=[.run (p.text.headD 0) p.text.length p.rs p.ro p.rc]:=by
 have h8:p.kind=8:=by
  rcases h with h|h
  ·exact h.1
  ·rcases ho with ho|ho
   ·rw[h.2.1] at ho;cases ho
   ·rw[h.2.2] at ho;cases ho
 unfold amP
 rw[if_pos h8,if_neg,zka _ _ _ _ _ (List.length_pos_iff.2 ht) ho]
 rintro ⟨h1,h2⟩
 rcases ho with ho|ho
 ·rw[h1] at ho;cases ho
 ·rw[h2] at ho;cases ho
theorem zw7 (s q:Pt) (hq:WfP q) (ht:s.text≠[]):zfk (.run (s.text.headD 0) s.text.length s.rs s.ro s.rc) (amP q)=if opens s q=true then some ([],.run (q.text.headD 0) q.text.length q.rs q.ro q.rc,[]) else none:=by
 have hhd:∀ u v:List UInt8,u≠[]→v≠[]→(u.headD 0=v.headD 0↔u.head?=v.head?):=by
  intro u v hu hv
  cases u with
  | nil=>exact absurd rfl hu
  | cons a u=>
   cases v with
   | nil=>exact absurd rfl hv
   | cons b v=>simp
 by_cases hof:opens s q=true
 ·rw[if_pos hof]
  unfold opens at hof
  simp only[Bool.and_eq_true,decide_eq_true_iff,Bool.not_eq_true',List.isEmpty_eq_false_iff] at hof
  obtain ⟨h1,h2,h3,h4⟩:=hof
  rw[zkd q hq (.inl h1) h2]
  have ho2:zmz (.run (s.text.headD 0) s.text.length s.rs s.ro s.rc) (.run (q.text.headD 0) q.text.length q.rs q.ro q.rc)=true:=by
   show (q.ro && (decide (q.text.headD 0=s.text.headD 0) && S.fits q.rs q.rc s.rs s.ro))=true
   rw[h1,h4,decide_eq_true ((hhd _ _ h2 ht).2 h3)];rfl
  simp only[zfk]
  rw[if_pos ho2]
 ·rw[if_neg hof]
  refine zna _ _ (fun x hx=>?_)
  by_cases hro:q.ro=true∧q.text≠[]
  ·rw[zkd q hq (.inl hro.1) hro.2] at hx
   rw[List.mem_singleton] at hx
   rw[hx]
   show (q.ro && (decide (q.text.headD 0=s.text.headD 0) && S.fits q.rs q.rc s.rs s.ro))=false
   unfold opens at hof
   rw[hro.1] at hof ⊢
   have he:q.text.isEmpty=false:=by rw[List.isEmpty_eq_false_iff];exact hro.2
   rw[he] at hof
   have hd:decide (q.text.headD 0=s.text.headD 0)=decide (q.text.head?=s.text.head?):=decide_eq_decide.2 (hhd _ _ hro.2 ht)
   rw[hd]
   simpa using hof
  ·unfold amP at hx
   split at hx
   ·split at hx
    ·rw[List.mem_map] at hx
     obtain ⟨c,_,rfl⟩:=hx
     exact zod _ _
    ·unfold runA at hx
     split at hx
     ·simp at hx
     ·rename_i hl
      rw[List.mem_singleton] at hx
      rw[hx]
      show (q.ro && _)=false
      cases hq1:q.ro with
      | false=>rfl
      | true=>exact absurd ⟨hq1,fun e=>hl (by rw[e];rfl)⟩ hro
   ·simp at hx;rw[hx];exact zp7 _ _
theorem zzg (s:Pt) (ht:s.text≠[]) (L:List Pt) (hL:WfPs L):zfk (.run (s.text.headD 0) s.text.length s.rs s.ro s.rc) (amsP L)=(zeg s L).map (fun v=>(amsP v.1,.run (v.2.1.text.headD 0) v.2.1.text.length v.2.1.rs v.2.1.ro v.2.1.rc,amsP v.2.2)):=by
 induction L with
 | nil=>rfl
 | cons p r ih=>
  have hr:WfPs r:=fun x hx=>hL x (List.mem_cons_of_mem _ hx)
  have h1:=zw7 s p (hL p (List.mem_cons_self ..)) ht
  rw[ze5]
  simp only[zeg]
  cases hv:zeg s r with
  | some v=>
   obtain ⟨l1,x,m⟩:=v
   rw[hv] at ih
   simp only[Option.map_some] at ih ⊢
   rw[zkm _ _ _ _ _ _ (ih hr),ze5]
  | none=>
   rw[hv] at ih
   simp only[Option.map_none] at ih
   rw[zmv _ _ _ (ih hr),h1]
   dsimp only
   split <;> simp[zsp]
theorem zr8 {s x:Pt} (h:opens s x=true):x.ro=true∧x.text≠[]:=by
 unfold opens at h
 simp only[Bool.and_eq_true,Bool.not_eq_true',List.isEmpty_eq_false_iff] at h
 exact ⟨h.1,h.2.1⟩
theorem zqu (s:Pt) (L l1 m:List Pt) (x:Pt) (h:zeg s L=some (l1,x,m)):opens s x=true:=by
 induction L generalizing l1 with
 | nil=>simp[zeg] at h
 | cons p r ih=>
  simp only[zeg] at h
  cases hv:zeg s r with
  | some v=>
   obtain ⟨a,y,b⟩:=v
   rw[hv] at h
   simp at h
   obtain ⟨_,rfl,rfl⟩:=h
   exact ih a hv
  | none=>
   rw[hv] at h
   dsimp only at h
   split at h
   ·rename_i ho
    simp at h
    obtain ⟨_,rfl,_⟩:=h
    exact ho
   ·cases h
theorem zi4 (p:Pt) (z:Nat) (h:WfP p):WfP (p.za4 (p.text.drop z)):=by
 rcases h with ⟨h1,h2,h3,h4⟩|h
 ·refine .inl ⟨h1,h2,h3,?_⟩
  rcases h4 with h4|⟨c,h4⟩
  ·exact .inl h4
  ·refine .inr ⟨c,?_⟩
   show p.text.drop z=List.replicate (p.text.drop z).length c
   rw[h4];simp
 ·exact .inr h
theorem zog (p:Pt) (z:Nat) (h:WfP p) (ho:p.ro=true∨p.rc=true):amP (p.za4 (p.text.drop z))=zvh z (.run (p.text.headD 0) p.text.length p.rs p.ro p.rc):=by
 have hw:=zi4 p z h
 have ho2:(p.za4 (p.text.drop z)).ro=true∨(p.za4 (p.text.drop z)).rc=true:=ho
 have hlen:(p.text.drop z).length=p.text.length-z:=List.length_drop ..
 show _=runA _ (p.text.length-z) _ _ _
 by_cases he:p.text.drop z=[]
 ·have h0:p.text.length-z=0:=by rw[← hlen,he];rfl
  rw[h0,zfj]
  rcases hw with ⟨h8,_,_,_⟩|hn
  ·unfold amP
   rw[if_pos h8]
   have ht:(p.za4 (p.text.drop z)).text=[]:=he
   rw[ht]
   split
   ·rfl
   ·exact zfj _ _ _ _
  ·rcases ho2 with ho2|ho2
   ·rw[hn.2.1] at ho2;cases ho2
   ·rw[hn.2.2] at ho2;cases ho2
 ·rw[zkd _ hw ho2 he,zka _ _ _ _ _ (by rw[← hlen];exact List.length_pos_iff.2 he) ho]
  show [Am.run ((p.text.drop z).headD 0) (p.text.drop z).length p.rs p.ro p.rc]=_
  rw[hlen]
  have hc:(p.text.drop z).headD 0=p.text.headD 0:=by
   rcases h with ⟨_,_,_,h4⟩|hn
   ·rcases h4 with h4|⟨c,h4⟩
    ·rcases ho with ho|ho
     ·rw[h4.1] at ho;cases ho
     ·rw[h4.2] at ho;cases ho
    ·have hg:∀ u:List UInt8,u≠[]→(∀ y∈u,y=c)→u.headD 0=c:=by
      intro u hu hy
      cases u with
      | nil=>exact absurd rfl hu
      | cons a u=>exact hy a (List.mem_cons_self ..)
     have hall:∀ y∈p.text,y=c:=by
      intro y hy;rw[h4] at hy;exact (List.mem_replicate.1 hy).2
     rw[hg _ he (fun y hy=>hall y (List.mem_of_mem_drop hy)),hg _ (fun e=>he (by rw[e];simp)) hall]
   ·rcases ho with ho|ho
    ·rw[hn.2.1] at ho;cases ho
    ·rw[hn.2.2] at ho;cases ho
  rw[hc]
theorem zt0 (z:Nat) (m:List Pt):WfP (zgh z m):=by
 refine .inr ⟨?_,rfl,rfl⟩
 show ¬ (if z=2 then (15:Int) else 14)=8
 split <;> decide
theorem zxq (z:Nat) (m:List Pt) (h:WfPs m):amP (zgh z m)=[zw1 z (amsP m)]:=by
 unfold amP
 rw[if_neg (by show ¬ (if z=2 then (15:Int) else 14)=8;split <;> decide)]
 unfold zw1
 rw[zsg]
 show [Am.nd (.nd (if z=2 then 15 else 14) 0 [] [] 0 (zf1 (zfm m)))]=_
 rw[zv8 m h]
theorem zyp (f:Nat) (L:List Pt) (s:Pt) (r res:List Am) (hf:s.text.length≤f) (hL:WfPs L) (hs:WfP s) (h:PA (amsP ((zcb f L s).1++[(zcb f L s).2])) r res):PA (amsP L) (amP s++r) res:=by
 have hpass:(¬ (s.rc=true∧s.text≠[]))→PA (amsP (L++[s])) r res→PA (amsP L) (amP s++r) res:=by
  intro hn hp
  rw[ze9,zfz] at hp
  refine PA.passes _ _ _ _ (fun a ha=>?_) hp
  unfold amP at ha
  split at ha
  ·split at ha
   ·exact zjv _ a ha
   ·cases hrc:s.rc with
    | false=>rw[hrc] at ha;exact zm3 _ _ _ _ a ha
    | true=>
     have h0:s.text=[]:=Classical.byContradiction (fun e=>hn ⟨hrc,e⟩)
     rw[h0] at ha
     simp[runA] at ha
  ·simp at ha;rw[ha];rfl
 induction f generalizing L s with
 | zero=>
  have h0:s.text=[]:=List.length_eq_zero_iff.1 (by omega)
  exact hpass (fun e=>e.2 h0) h
 | succ f ih=>
  by_cases hc:s.rc=true∧s.text≠[]
  ·have ham:=zkd s hs (.inr hc.1) hc.2
   have hlast:=zzg s hc.2 L hL
   cases hv:zeg s L with
   | none=>
    rw[zg7 _ _ _ hv] at h
    rw[hv] at hlast
    rw[ham]
    refine PA.pass _ _ _ _ (.inr hlast) ?_
    rw[ze9,zfz,ham] at h
    exact h
   | some v=>
    obtain ⟨l1,x,m⟩:=v
    rw[zg4 f L l1 m s x hc.1 hc.2 hv] at h
    rw[hv] at hlast
    simp only[Option.map_some] at hlast
    obtain ⟨hcut,_⟩:=zih s L l1 x m hv
    have hop:=zr8 (zqu s L l1 m x hv)
    have hx:WfP x:=hL x (by rw[hcut];simp)
    have hm:WfPs m:=fun y hy=>hL y (by rw[hcut];simp[hy])
    have hl1:WfPs l1:=fun y hy=>hL y (by rw[hcut];simp[hy])
    have hz:zA (.run (x.text.headD 0) x.text.length x.rs x.ro x.rc) (.run (s.text.headD 0) s.text.length s.rs s.ro s.rc)=zcc x s:=rfl
    have hz1:1≤zcc x s:=by unfold zcc;split <;> omega
    have hL2:WfPs (l1++[x.za4 (x.text.drop (zcc x s)),zgh (zcc x s) m]):=by
     intro y hy
     rw[List.mem_append,List.mem_cons,List.mem_singleton] at hy
     rcases hy with hy|hy|hy
     ·exact hl1 y hy
     ·rw[hy];exact zi4 x _ hx
     ·rw[hy];exact zt0 _ _
    have hs2:=zi4 s (zcc x s) hs
    have hpos:=List.length_pos_iff.2 hc.2
    have:=ih _ _ (by show (s.text.drop _).length≤f;rw[List.length_drop];omega) hL2 hs2 h (by
     intro hn hp
     rw[ze9,zfz] at hp
     refine PA.passes _ _ _ _ (fun a ha=>?_) hp
     rw[zog s _ hs (.inr hc.1)] at ha
     by_cases h0:s.text.drop (zcc x s)=[]
     ·have h00:s.text.length-zcc x s=0:=by rw[← List.length_drop,h0];rfl
      unfold zvh at ha
      dsimp only at ha
      rw[h00,zfj] at ha
      simp at ha
     ·exact absurd ⟨hc.1,h0⟩ hn)
    rw[ham]
    refine PA.pair _ _ _ _ _ _ _ (by show s.rc=true;exact hc.1) hlast ?_
    rw[hz]
    rw[ze9,ze5,zfz,zog x _ hx (.inl hop.1),zxq _ _ hm,zog s _ hs (.inr hc.1),← List.append_assoc] at this
    exact this
  ·rw[zdj _ _ _ hc] at h
   exact hpass hc h
theorem zy5 (f:Nat) (L:List Pt) (s:Pt) (hL:WfPs L) (hs:WfP s):WfPs ((zcb f L s).1++[(zcb f L s).2]):=by
 have hone:∀ (L:List Pt) (s:Pt),WfPs L→WfP s→WfPs (L++[s]):=by
  intro L s h1 h2 y hy
  rw[List.mem_append,List.mem_singleton] at hy
  rcases hy with hy|hy
  ·exact h1 y hy
  ·rw[hy];exact h2
 induction f generalizing L s with
 | zero=>exact hone L s hL hs
 | succ f ih=>
  simp only[zcb]
  split
  ·cases hv:zeg s L with
   | none=>exact hone L s hL hs
   | some v=>
    obtain ⟨l1,x,m⟩:=v
    dsimp only
    obtain ⟨hcut,_⟩:=zih s L l1 x m hv
    refine ih _ _ ?_ (zi4 s _ hs)
    intro y hy
    rw[List.mem_append,List.mem_cons,List.mem_singleton] at hy
    rcases hy with hy|hy|hy
    ·exact hL y (by rw[hcut];simp[hy])
    ·rw[hy];exact zi4 x _ (hL x (by rw[hcut];simp))
    ·rw[hy];exact zt0 _ _
  ·exact hone L s hL hs
theorem zzj (L r:List Pt) (hL:WfPs L) (hr:WfPs r):PA (amsP L) (amsP r) (amsP (zil L r))∧WfPs (zil L r):=by
 induction r generalizing L with
 | nil=>exact ⟨PA.done _,hL⟩
 | cons s r ih=>
  have hs:=hr s (List.mem_cons_self ..)
  have hr2:WfPs r:=fun x hx=>hr x (List.mem_cons_of_mem _ hx)
  have h2:=ih ((zcb s.text.length L s).1++[(zcb s.text.length L s).2]) (zy5 _ L s hL hs) hr2
  simp only[zil]
  rw[ze5]
  exact ⟨zyp _ L s _ _ (Nat.le_refl _) hL hs h2.1,h2.2⟩
theorem zkr (l:List RPt) (ps:List Pt) (ns:List Rn) (h:amsR l=amsP ps) (hl:∀ p∈l,WfR p) (hp:WfPs ps) (hns:ze7 l 0 ns):ns=zf1 (zd7 ps):=by
 obtain ⟨res,h1,h2⟩:=hns.ams (Nat.zero_le _) hl
 have h3:=zzj [] ps (fun x hx=>by simp at hx) hp
 rw[List.take_zero,List.drop_zero,h] at h1
 have:=h1.det h3.1
 rw[h2,this]
 unfold zd7 pairT
 rw[zv8 _ h3.2]
theorem znz (l:List UInt8) (h:10 ∉ l):spc l=l:=by
 unfold spc
 induction l with
 | nil=>rfl
 | cons b r ih=>
  have hb:b≠10:=fun e=>h (by rw[e];exact List.mem_cons_self ..)
  rw[List.map_cons,if_neg hb,ih (fun e=>h (List.mem_cons_of_mem _ e))]
theorem zox (k:Nat) (l:List UInt8) (h:l.count 10≤k):Lib.replaceK [10] [32] k l=spc l:=by
 induction k generalizing l with
 | zero=>exact (znz l (List.count_eq_zero.1 (by omega))).symm
 | succ k ih=>
  unfold Lib.replaceK
  have hge:=Lib.indexByte_ge l 10
  rw[Lib.index_one]
  split
  ·rename_i h1
   have h1:Lib.indexByte l 10 = -1:=by simpa using h1
   refine (znz l ?_).symm
   intro hm
   obtain ⟨o,ho⟩:=List.mem_iff_getElem?.1 hm
   exact absurd ho (Lib.indexByte_none h1 o)
  ·rename_i h1
   have hne:¬ Lib.indexByte l 10 = -1:=by simpa using h1
   obtain ⟨o,ho⟩:∃ o:Nat,Lib.indexByte l 10=o:=⟨(Lib.indexByte l 10).toNat,by omega⟩
   have hs:=Lib.indexByte_some ho
   have hlt:=(List.getElem?_eq_some_iff.1 hs.1).1
   have hspl:l=l.take o++10::l.drop (o+1):=by
    conv=>lhs;rw[← List.take_append_drop o l]
    rw[List.drop_eq_getElem_cons hlt]
    have:=hs.1
    rw[List.getElem?_eq_getElem hlt] at this
    rw[Option.some.inj this]
   have hno:10 ∉ l.take o:=by
    intro hm
    obtain ⟨j,hj⟩:=List.mem_iff_getElem?.1 hm
    have hjl:=(List.getElem?_eq_some_iff.1 hj).1
    rw[List.length_take] at hjl
    rw[List.getElem?_take_of_lt (by omega)] at hj
    exact hs.2 j (by omega) hj
   have hc:(l.drop (o+1)).count 10≤k:=by
    rw[hspl,List.count_append,List.count_cons_self] at h
    omega
   rw[ho]
   show l.take o++[32]++Lib.replaceK [10] [32] k (l.drop (o+1))=_
   rw[ih _ hc]
   conv=>rhs;rw[hspl]
   unfold spc
   rw[List.map_append,List.map_cons,if_pos rfl]
   have:=znz _ hno
   unfold spc at this
   rw[this];simp
theorem zro (l:List UInt8):Lib.replaceAll l [10] [32]=spc l:=by
 unfold Lib.replaceAll Lib.replace
 rw[if_neg (by decide)]
 refine zox _ l ?_
 unfold Lib.replaceNum
 rw[if_pos (.inl (by decide)),Lib.count_one]
 exact Nat.le_refl _
theorem zwo (l:List UInt8) (c:UInt8):Lib.hasSuffix l [c]=true↔l[l.length-1]?=some c:=by
 unfold Lib.hasSuffix
 rw[List.isSuffixOf_iff_suffix]
 constructor
 ·rintro ⟨a,rfl⟩
  simp
 ·intro h
  rcases List.eq_nil_or_concat l with rfl|⟨a,b,rfl⟩
  ·simp at h
  ·simp at h
   subst h
   exact ⟨a,by simp⟩
theorem dropWhile_nil {α:Type} (p : α→Bool) (l:List α) (h:l.dropWhile p=[]):∀ x∈l,p x=true:=by
 induction l with
 | nil=>intro x hx;simp at hx
 | cons a r ih=>
  rw[List.dropWhile_cons] at h
  split at h
  ·rename_i ha
   intro x hx
   rcases List.mem_cons.1 hx with hx|hx
   ·rw[hx];exact ha
   ·exact ih h x hx
  ·cases h
theorem zmu (l:List UInt8):Lib.trimB l 32=[]↔S.blank l=true:=by
 rw[← S.zfs]
 unfold S.blank S.indent
 rw[decide_eq_true_iff]
 have hle:=S.zii 32 l
 constructor
 ·intro h
  apply Classical.byContradiction
  intro hne
  have hlt:S.cnt 32 l<l.length:=by omega
  have he:=zqb 32 l
  unfold Lib.trimRightB at h
  rw[List.reverse_eq_nil_iff] at h
  have:=dropWhile_nil _ _ h l[S.cnt 32 l] (by
   rw[List.mem_reverse,List.drop_eq_getElem_cons hlt];exact List.mem_cons_self ..)
  rw[List.getElem?_eq_getElem hlt] at he
  exact he (by rw[beq_iff_eq.1 this])
 ·intro h
  rw[h,List.drop_length];rfl
theorem ztc (l:List UInt8):zmd l=S.zc9 l:=by
 unfold zmd S.zc9
 rw[zro]
 dsimp only
 by_cases h:(Lib.hasPrefix (spc l) [32] && Lib.hasSuffix (spc l) [32])=true∧Lib.trimB (spc l) 32≠[]
 ·rw[if_pos h]
  have h1:=h.1
  rw[Bool.and_eq_true,has1,zwo] at h1
  have h2:=zjz h.2 (by have:=h.1;rw[Bool.and_eq_true] at this;exact this.1)
  rw[if_pos]
  refine ⟨by omega,h1.1,h1.2,?_⟩
  cases hb:S.blank (spc l) with
  | false=>rfl
  | true=>exact absurd ((zmu _).2 hb) h.2
 ·rw[if_neg h,if_neg]
  rintro ⟨_,h1,h2,h3⟩
  refine h ⟨by rw[Bool.and_eq_true,has1,zwo];exact ⟨h1,h2⟩,fun e=>?_⟩
  rw[zmu,h3] at e;cases e
def TxtR (l:List RPt) (u:List UInt8):Prop:=(∀ p∈l,p.what=0∧p.left=0)∧(l.map RPt.s).flatten=u
theorem TxtR.nil:TxtR [] []:=⟨by simp,rfl⟩
theorem TxtR.append {a b:List RPt} {u v:List UInt8} (ha:TxtR a u) (hb:TxtR b v):TxtR (a++b) (u++v):=by
 refine ⟨fun p hp=>?_,by rw[List.map_append,List.flatten_append,ha.2,hb.2]⟩
 rw[List.mem_append] at hp
 rcases hp with hp|hp
 ·exact ha.1 p hp
 ·exact hb.1 p hp
theorem TxtR.one (v:List UInt8):TxtR [txtR v] v:=⟨fun p hp=>by rw[List.mem_singleton] at hp;subst hp;exact ⟨rfl,rfl⟩,by simp[txtR]⟩
theorem zss (p:RPt) (h:p.what≠1) (hl:p.left=0):amR p=p.s.map Am.b:=by
 unfold amR
 rw[if_neg h,hl,zfj,List.append_nil]
theorem TxtR.ams {l:List RPt} {u:List UInt8} (h:TxtR l u):amsR l=u.map Am.b:=by
 obtain ⟨h1,rfl⟩:=h
 induction l with
 | nil=>rfl
 | cons p r ih=>
  have hp:=h1 p (List.mem_cons_self ..)
  rw[zdx,ih (fun q hq=>h1 q (List.mem_cons_of_mem _ hq)),zss p (by omega) hp.2]
  simp
theorem zsj (u:List UInt8):amP (zbj u)=u.map Am.b:=by
 unfold amP
 rw[if_pos (show (zbj u).kind=8 from rfl),if_pos (show (zbj u).ro=false∧(zbj u).rc=false from ⟨rfl,rfl⟩)];rfl
theorem zt3 (u:List UInt8):WfP (zbj u):=.inl ⟨rfl,rfl,rfl,.inl ⟨rfl,rfl⟩⟩
def Sg (l:List RPt) (ps:List Pt):Prop:=(∀ p∈l,p.what≠3)∧(∀ p∈l,WfR p)∧WfPs ps∧amsR l=amsP ps
theorem Sg.nil:Sg [] []:=⟨by simp,by simp,fun p hp=>by simp at hp,rfl⟩
theorem Sg.append {a b:List RPt} {x y:List Pt} (h1:Sg a x) (h2:Sg b y):Sg (a++b) (x++y):=by
 refine ⟨fun p hp=>?_,fun p hp=>?_,fun p hp=>?_,by rw[ze8,ze9,h1.2.2.2,h2.2.2.2]⟩
 ·rw[List.mem_append] at hp;exact hp.elim (h1.1 p) (h2.1 p)
 ·rw[List.mem_append] at hp;exact hp.elim (h1.2.1 p) (h2.2.1 p)
 ·rw[List.mem_append] at hp;exact hp.elim (h1.2.2.1 p) (h2.2.2.1 p)
theorem TxtR.wf {l:List RPt} {u:List UInt8} (h:TxtR l u):(∀ p∈l,p.what≠3)∧(∀ p∈l,WfR p):=
 ⟨fun p hp=>by have:=(h.1 p hp).1;omega,fun p hp=>.inr (.inr ⟨by have:=(h.1 p hp).1;omega,by have:=(h.1 p hp).1;omega,(h.1 p hp).2⟩)⟩
theorem TxtR.seg {l:List RPt} {u:List UInt8} (h:TxtR l u):Sg l [zbj u]:=
 ⟨h.wf.1,h.wf.2,fun p hp=>by rw[List.mem_singleton] at hp;subst hp;exact zt3 u,by rw[h.ams,zfz,zsj]⟩
theorem TxtR.skip {l:List RPt} {ct:ByteArray} {f k:Nat} (h:TxtR l ((ct.data.toList.drop f).take (k-f))):Sg l (zcw ct f k):=by
 unfold zcw
 split
 ·exact h.seg
 ·rename_i hf
  rw[show k-f=0 from by omega,List.take_zero] at h
  exact ⟨h.wf.1,h.wf.2,fun p hp=>by simp at hp,by rw[h.ams];rfl⟩
theorem Sg.node (n:Rn) (p:Pt) (h8:¬ p.kind=8) (hr:p.ro=false∧p.rc=false) (hn:toRn p=n):Sg [zcx n] [p]:=by
 refine ⟨fun q hq=>?_,fun q hq=>?_,fun q hq=>?_,?_⟩
 ·rw[List.mem_singleton] at hq;subst hq;simp[zcx]
 ·rw[List.mem_singleton] at hq;subst hq;exact .inr (.inl rfl)
 ·rw[List.mem_singleton] at hq;subst hq;exact .inr ⟨h8,hr.1,hr.2⟩
 ·rw[zfz,zdx,zk9,List.append_nil]
  unfold amR amP
  rw[if_pos (show (zcx n).what=1 from rfl),if_neg h8,hn];rfl
inductive Br:List RPt→List Pt→List Opn→Prop
 | base (l:List RPt) (ps:List Pt) (h:Sg l ps):Br l ps []
 | opn (l:List RPt) (ps:List Pt) (os:List Opn) (q:RPt) (l2:List RPt) (ps2:List Pt) (h:Br l ps os) (hq:q.what=3∧q.left=0) (h2:Sg l2 ps2):Br (l++q::l2) (ps++zbj q.s::ps2) (os++[⟨ps.length,q.im,q.dead⟩])
theorem Br.ext {l:List RPt} {ps:List Pt} {os:List Opn} (h:Br l ps os) {l2:List RPt} {ps2:List Pt} (hs:Sg l2 ps2):Br (l++l2) (ps++ps2) os:=by
 cases h with
 | base _ _ h=>exact .base _ _ (h.append hs)
 | opn a x os q b y h hq h2=>
  rw[List.append_assoc,List.append_assoc,List.cons_append,List.cons_append]
  exact .opn a x os q _ _ h hq (h2.append hs)
theorem Br.all {l:List RPt} {ps:List Pt} {os:List Opn} (h:Br l ps os):(∀ p∈l,WfR p)∧WfPs ps∧amsR l=amsP ps:=by
 induction h with
 | base l ps h=>exact h.2
 | opn a x os q b y h hq h2 ih=>
  refine ⟨fun p hp=>?_,fun p hp=>?_,?_⟩
  ·rw[List.mem_append,List.mem_cons] at hp
   rcases hp with hp|hp|hp
   ·exact ih.1 p hp
   ·rw[hp];exact .inr (.inr ⟨by omega,by omega,hq.2⟩)
   ·exact h2.2.1 p hp
  ·rw[List.mem_append,List.mem_cons] at hp
   rcases hp with hp|hp|hp
   ·exact ih.2.1 p hp
   ·rw[hp];exact zt3 _
   ·exact h2.2.2.1 p hp
  ·rw[ze8,zdx,ze9,ze5,ih.2.2,h2.2.2.2,zsj,zss q (by omega) hq.2]
theorem zrm (x:RPt):zbi true x=x:=by
 unfold zbi
 rw[if_neg]
 rintro ⟨_,h,_⟩
 cases h
theorem znb (l:List RPt) (h:∀ p∈l,p.what≠3) (im:Bool):l.map (zbi im)=l:=by
 induction l with
 | nil=>rfl
 | cons p r ih=>
  rw[List.map_cons,ih (fun q hq=>h q (List.mem_cons_of_mem _ hq))]
  unfold zbi
  rw[if_neg]
  rintro ⟨h1,_⟩
  exact h p (List.mem_cons_self ..) h1
theorem Br.kill {l:List RPt} {ps:List Pt} {os:List Opn} (h:Br l ps os):Br (l.map (zbi false)) ps (os.map Opn.kill):=by
 induction h with
 | base l ps h=>rw[znb l h.1];exact .base _ _ h
 | opn a x os q b y h hq h2 ih=>
  rw[List.map_append,List.map_cons,znb b h2.1,List.map_append]
  have hs:(zbi false q).s=q.s:=by unfold zbi;split <;> rfl
  have him:(zbi false q).im=q.im:=by unfold zbi;split <;> rfl
  have hw:(zbi false q).what=3∧(zbi false q).left=0:=by unfold zbi;split <;> exact hq
  have hd:(zbi false q).dead=(q.dead || !q.im):=by
   unfold zbi
   cases hi:q.im with
   | false=>rw[if_pos ⟨hq.1,rfl,rfl⟩];simp
   | true=>
    rw[if_neg (by rintro ⟨_,_,h⟩;cases h)];simp
  have:=Br.opn _ _ _ (zbi false q) b y ih hw h2
  rw[hs,him,hd] at this
  exact this
theorem Br.last {l:List RPt} {ps:List Pt} {os:List Opn} {o:Opn} (h:Br l ps (os++[o])):∃ a q b x y,l=a++q::b∧ps=x++zbj q.s::y∧o=⟨x.length,q.im,q.dead⟩∧Br a x os∧Sg b y∧q.what=3∧q.left=0:=by
 generalize he:os++[o]=os2 at h
 cases h with
 | base _ _ h=>simp at he
 | opn a x os3 q b y h hq h2=>
  obtain ⟨h3,h4⟩:=List.append_inj' he rfl
  subst h3
  simp at h4
  exact ⟨a,q,b,x,y,rfl,rfl,h4,h,h2,hq.1,hq.2⟩
theorem Br.none {l:List RPt} {ps:List Pt} (h:Br l ps []):Sg l ps:=by
 generalize he:([]:List Opn)=os at h
 cases h with
 | base _ _ h=>exact h
 | opn a x os3 q b y h hq h2=>simp at he
theorem zoc (a b:List RPt) (q:RPt) (hq:q.what=3) (hb:∀ p∈b,p.what≠3) (n:Nat) (hn:n≤b.length):zbm (a++q::b) (a.length+1+n)=some a.length:=by
 induction n with
 | zero=>
  rw[Nat.add_zero]
  simp only[zbm]
  rw[List.getElem?_append_right (Nat.le_refl _),Nat.sub_self]
  simp[hq]
 | succ n ih=>
  rw[← Nat.add_assoc]
  simp only[zbm]
  rw[List.getElem?_append_right (by omega),show a.length+1+n-a.length=n+1 from by omega,List.getElem?_cons_succ]
  cases hx:b[n]? with
  | none=>exact ih (by omega)
  | some p=>
   dsimp only
   rw[if_neg (hb p (List.mem_of_getElem? hx))]
   exact ih (by omega)
theorem znt (l:List RPt) (h:∀ p∈l,p.what≠3) (n:Nat):zbm l n=none:=by
 induction n with
 | zero=>rfl
 | succ n ih=>
  simp only[zbm]
  cases hx:l[n]? with
  | none=>exact ih
  | some p=>
   dsimp only
   rw[if_neg (h p (List.mem_of_getElem? hx))]
   exact ih
structure Sim (ct:ByteArray) (l:List RPt) (s:St):Prop where
 fk:s.f≤s.k
 kl:s.k≤ct.size
 rel:∃ l1 l2,l=l1++l2∧Br l1 s.ps s.os∧TxtR l2 ((ct.data.toList.drop s.f).take (s.k-s.f))
 sp:spB ct.data.toList s.k=0∨(ct.data.toList[s.k]?≠some 32∧ct.data.toList[s.k]?≠some 10)
theorem Sim.flush {ct:ByteArray} {l:List RPt} {s:St} (h:Sim ct l s):Br l (s.ps++zcw ct s.f s.k) s.os:=by
 obtain ⟨l1,l2,rfl,h1,h2⟩:=h.rel
 exact h1.ext h2.skip
theorem Sim.lay {ct:ByteArray} {l:List RPt} {s:St} (h:Sim ct l s) {p:Pt} {q:RPt} (n:Nat) (hs:Sg [q] [p]) (hn:s.k+n≤ct.size) (hsp:spB ct.data.toList (s.k+n)=0):Sim ct (l++[q]) (s.lay ct p n):=
 ⟨Nat.le_refl _,hn,⟨l++[q],[],by simp,h.flush.ext hs,by
  show TxtR [] ((ct.data.toList.drop (s.k+n)).take (s.k+n-(s.k+n)))
  rw[Nat.sub_self];exact TxtR.nil⟩,.inl hsp⟩
theorem Sim.text {ct:ByteArray} {l:List RPt} {s:St} (h:Sim ct l s) {g:List RPt} (n:Nat) (hg:TxtR g ((ct.data.toList.drop s.k).take n)) (hn:s.k+n≤ct.size) (hsp:spB ct.data.toList (s.k+n)=0∨(ct.data.toList[s.k+n]?≠some 32∧ct.data.toList[s.k+n]?≠some 10)):Sim ct (l++g) (s.text n):=by
 obtain ⟨l1,l2,rfl,h1,h2⟩:=h.rel
 have hfk:=h.fk
 refine ⟨by show s.f≤s.k+n;omega,hn,⟨l1,l2++g,by simp,h1,?_⟩,hsp⟩
 show TxtR (l2++g) ((ct.data.toList.drop s.f).take (s.k+n-s.f))
 have he:(ct.data.toList.drop s.f).take (s.k+n-s.f)=(ct.data.toList.drop s.f).take (s.k-s.f)++(ct.data.toList.drop s.k).take n:=by
  rw[show s.k+n-s.f=(s.k-s.f)+n from by omega,List.take_add,List.drop_drop,show s.f+(s.k-s.f)=s.k from by omega]
 rw[he]
 exact h2.append hg
theorem Sim.text1 {ct:ByteArray} {l:List RPt} {s:St} (h:Sim ct l s) (b:UInt8) (hb:ct.data.toList[s.k]?=some b) (h32:b≠32):Sim ct (l++[txtR ((ct.data.toList.drop s.k).take 1)]) (s.text 1):=by
 have hlt:=(List.getElem?_eq_some_iff.1 hb).1
 rw[S.length_data] at hlt
 exact h.text 1 (TxtR.one _) (by omega) (.inl (zdw _ _ b hb h32))
theorem zgl {t:List UInt8} {l l':List RPt} {i i':Nat} {b:UInt8} (hb:t[i]?=some b) (h:zfv t l i l' i') (h92:¬ (b=92∧t[i+1]?=some 10)) (h92':¬ (b=92∧(t[i+1]?.map S.mark)=some true)) (h96:b≠96) (h60:¬ (b=60∧0<ang t i)) (h10:b≠10) (hr:¬ (b=42∨b=95)) (h91:b≠91) (h33:¬ (b=33∧t[i+1]?=some 91)) (h93:b≠93):l'=l++[txtR ((t.drop i).take 1)]∧i'=i+1:=by
 obtain ⟨c,hc,h⟩:=h
 rw[hb] at hc
 have:=Option.some.inj hc
 subst this
 rw[if_neg h92,if_neg h92',if_neg h96,if_neg h60,if_neg h10,if_neg hr,if_neg h91,if_neg h33,if_neg h93] at h
 exact h
theorem WTo.next {t:List UInt8} {l:List RPt} {i:Nat} {ns:List Rn} (h:WTo t l i ns) (hi:i<t.length):∃ l' i',zfv t l i l' i'∧WTo t l' i' ns:=by
 cases h with
 | done _ _ _ h _=>omega
 | step _ _ l' i' _ hs hr=>exact ⟨l',i',hs,hr⟩
theorem zof (t:List UInt8) (i:Nat) (c:UInt8):Lib.hasPrefix (t.drop i) [c]=true↔t[i]?=some c:=by rw[has1,List.getElem?_drop,Nat.add_zero]
theorem zsn (t:List UInt8) (i:Nat) (c d:UInt8):Lib.hasPrefix (t.drop i) [c,d]=true↔t[i]?=some c∧t[i+1]?=some d:=by
 have h0:(t.drop i)[0]?=t[i]?:=by rw[List.getElem?_drop,Nat.add_zero]
 have h1:(t.drop i)[1]?=t[i+1]?:=List.getElem?_drop ..
 rw[← h0,← h1]
 cases hx:t.drop i with
 | nil=>simp[Lib.hasPrefix]
 | cons a r=>
  cases r with
  | nil=>simp[Lib.hasPrefix,List.isPrefixOf]
  | cons b r=>
   simp only[Lib.hasPrefix,List.isPrefixOf,Bool.and_true,Bool.and_eq_true,beq_iff_eq,List.getElem?_cons_zero,List.getElem?_cons_succ,Option.some.injEq]
   exact ⟨fun h=>⟨h.1.symm,h.2.symm⟩,fun h=>⟨h.1.symm,h.2.symm⟩⟩
theorem zwk (t:List UInt8) (l:List RPt) (i n:Nat) (ns:List Rn) (hall:∀ j,j<n→t[i+j]?=some 32) (h:WTo t l i ns):WTo t (l++List.replicate n (txtR [32])) (i+n) ns:=by
 induction n generalizing l i with
 | zero=>simpa using h
 | succ n ih=>
  have h0:=hall 0 (by omega)
  rw[Nat.add_zero] at h0
  have hlt:=(List.getElem?_eq_some_iff.1 h0).1
  obtain ⟨l',i',hs,hr⟩:=h.next hlt
  have hst:=zgl h0 hs (by rintro ⟨h,_⟩;revert h;decide) (by rintro ⟨h,_⟩;revert h;decide) (by decide) (by rintro ⟨h,_⟩;revert h;decide) (by decide) (by decide) (by decide) (by rintro ⟨h,_⟩;revert h;decide) (by decide)
  have h1:(t.drop i).take 1=[32]:=by
   rw[List.drop_eq_getElem_cons hlt]
   rw[List.getElem?_eq_getElem hlt] at h0
   rw[Option.some.inj h0];rfl
  rw[hst.1,hst.2,h1] at hr
  have:=ih (l++[txtR [32]]) (i+1) (fun j hj=>by have:=hall (j+1) (by omega);rwa [show i+(j+1)=i+1+j from by omega] at this) hr
  rw[List.append_assoc,List.singleton_append,← List.replicate_succ,show i+1+n=i+(n+1) from by omega] at this
  exact this
theorem zuj (n:Nat):TxtR (List.replicate n (txtR [32])) (List.replicate n 32):=by
 induction n with
 | zero=>exact TxtR.nil
 | succ n ih=>rw[List.replicate_succ,List.replicate_succ];exact (TxtR.one [32]).append ih
theorem z0l (t:List UInt8) (i n:Nat) (hall:∀ j,j<n→t[i+j]?=some 32):spB t (i+n)=spB t i+n:=by
 induction n with
 | zero=>rfl
 | succ n ih=>
  rw[← Nat.add_assoc,zoi t (i+n) 32 (hall n (by omega)),if_pos rfl,ih (fun j hj=>hall j (by omega))];omega
theorem znk (t:List UInt8) (i:Nat) (b:UInt8) (hb:t[i]?=some b):S.same (t.drop i)=S.cnt b (t.drop i)∧1≤S.cnt b (t.drop i)∧i+S.cnt b (t.drop i)≤t.length∧(∀ j,j<S.cnt b (t.drop i)→t[i+j]?=some b)∧t[i+S.cnt b (t.drop i)]?≠some b∧(t.drop i).take (S.cnt b (t.drop i))=List.replicate (S.cnt b (t.drop i)) b:=by
 have hlt:=(List.getElem?_eq_some_iff.1 hb).1
 have hd:t.drop i=b::t.drop (i+1):=by
  rw[List.drop_eq_getElem_cons hlt]
  rw[List.getElem?_eq_getElem hlt] at hb
  rw[Option.some.inj hb]
 have hle:=S.zii b (t.drop i)
 rw[List.length_drop] at hle
 have hall:∀ j,j<S.cnt b (t.drop i)→t[i+j]?=some b:=fun j hj=>by have:=zkx b _ j hj;rwa [List.getElem?_drop] at this
 refine ⟨by rw[hd];rfl,by rw[hd];simp[S.cnt],by omega,hall,by have:=zqb b (t.drop i);rwa [List.getElem?_drop] at this,?_⟩
 apply List.ext_getElem?
 intro j
 by_cases hj:j<S.cnt b (t.drop i)
 ·rw[List.getElem?_take_of_lt hj,List.getElem?_drop,hall j hj,List.getElem?_replicate,if_pos hj]
 ·rw[List.getElem?_eq_none (by rw[List.length_take];omega),List.getElem?_eq_none (by rw[List.length_replicate];omega)]
theorem zia (k:Int) (t:List UInt8) (h:¬ k=8):Sg [zg0 k t] [.mk k [] t [] 0 false false]:=Sg.node _ _ h ⟨rfl,rfl⟩ (by simp only[toRn,zf1])
theorem Sim.open {ct:ByteArray} {l:List RPt} {s:St} (h:Sim ct l s) (u:List UInt8) (im:Bool) (hn:s.k+u.length≤ct.size) (hsp:spB ct.data.toList (s.k+u.length)=0):Sim ct (l++[zgt u im]) (s.open ct u im):=
 ⟨Nat.le_refl _,hn,⟨l++[zgt u im],[],by simp,Br.opn _ _ _ (zgt u im) [] [] h.flush ⟨rfl,rfl⟩ Sg.nil,by
  show TxtR [] ((ct.data.toList.drop (s.k+u.length)).take (s.k+u.length-(s.k+u.length)))
  rw[Nat.sub_self];exact TxtR.nil⟩,.inl hsp⟩
theorem Sim.close {ct:ByteArray} {l l':List RPt} {s:St} {i':Nat} (h:Sim ct l s) (hb:ct.data.toList[s.k]?=some 93) (hc:zct l ct.data.toList s.k l' i'):Sim ct l' (if (s.close ct).1=true then (s.close ct).2 else (s.close ct).2.text 1)∧i'=(if (s.close ct).1=true then (s.close ct).2 else (s.close ct).2.text 1).k:=by
 have hlt:=(List.getElem?_eq_some_iff.1 hb).1
 rw[S.length_data] at hlt
 have hpl:=hc.place hb
 have h93:(ct.data.toList.drop s.k).take 1=[93]:=by
  have hlt':=(List.getElem?_eq_some_iff.1 hb).1
  rw[List.drop_eq_getElem_cons hlt']
  rw[List.getElem?_eq_getElem hlt'] at hb
  rw[Option.some.inj hb];rfl
 have hsp1:spB ct.data.toList (s.k+1)=0:=zdw _ _ 93 hb (by decide)
 obtain ⟨l1,l2,hl,hbr,htx⟩:=h.rel
 rcases List.eq_nil_or_concat s.os with ho|⟨os,o,ho⟩
 ·have he:s.close ct=(false,s):=by unfold St.close;rw[ho];rfl
  rw[he]
  simp only[Bool.false_eq_true,if_false]
  have hseg:=(ho ▸ hbr).none
  have hno:zbm l l.length=none:=znt l (by
   rw[hl];intro p hp
   rw[List.mem_append] at hp
   exact hp.elim (hseg.1 p) (htx.wf.1 p)) _
  rcases hc with ⟨_,h1,h2⟩|⟨k,q,hk,_⟩|⟨k,q,ns,hk,_⟩
  ·rw[h1,h2,← h93]
   exact ⟨h.text1 93 hb (by decide),rfl⟩
  ·rw[hno] at hk;cases hk
  ·rw[hno] at hk;cases hk
 ·have ho:s.os=os++[o]:=by simpa using ho
  have hlast:s.os.getLast?=some o:=by rw[ho];simp
  have hdl:s.os.dropLast=os:=by rw[ho];simp
  obtain ⟨a,q,b,x,y,hl1,hps,hoe,hbr1,hseg,hq3,hq0⟩:=(ho ▸ hbr).last
  have hbl:∀ p∈b++l2,p.what≠3:=by
   intro p hp
   rw[List.mem_append] at hp
   exact hp.elim (hseg.1 p) (htx.wf.1 p)
  have hl3:l=a++q::(b++l2):=by rw[hl,hl1];simp
  have hfo:zbm l l.length=some a.length:=by
   rw[hl3,show (a++q::(b++l2)).length=a.length+1+(b++l2).length from by simp;omega]
   exact zoc a (b++l2) q hq3 hbl _ (Nat.le_refl _)
  have hga:l[a.length]?=some q:=by rw[hl3,List.getElem?_append_right (Nat.le_refl _),Nat.sub_self];rfl
  have hnolink:(o.dead=true∨S.zd1 (ct.data.toList.drop (s.k+1))=false)→s.close ct=(false,⟨s.f,s.k,s.ps,os⟩):=by
   intro hn
   unfold St.close
   rw[hlast,hdl]
   dsimp only
   rw[if_neg]
   rintro ⟨h1,h2⟩
   rcases hn with hn|hn
   ·rw[h1] at hn;cases hn
   ·rw[h2] at hn;cases hn
  rcases hc with ⟨h0,_⟩|⟨k,q',hk,hq',hnl,h1,h2⟩|⟨k,q',ns,hk,hq',hd,htg,hp,h1,h2⟩
  ·rw[hfo] at h0;cases h0
  ·rw[hfo] at hk
   have hk:=Option.some.inj hk
   subst hk
   rw[hga] at hq'
   have:=Option.some.inj hq'
   subst this
   have he:=hnolink (by
    rcases hnl with hnl|hnl
    ·exact .inl (by rw[hoe];exact hnl)
    ·right
     unfold tgt at hnl
     cases hok:S.zd1 (ct.data.toList.drop (s.k+1)) with
     | false=>rfl
     | true=>rw[if_pos hok] at hnl;omega)
   rw[he]
   simp only[Bool.false_eq_true,if_false]
   refine ⟨?_,h2⟩
   have hset:l.set a.length { q with what:=0 } = (a ++ { q with what:=0 } :: b)++l2:=by
    rw[hl3]
    rw[List.set_append_right _ _ (Nat.le_refl _),Nat.sub_self]
    simp
   have hq2:Sg ({ q with what:=0 } :: b) (zbj q.s::y):=by
    have h0:Sg [{ q with what:=0 }] [zbj q.s]:=by
     have:TxtR [({ q with what:=0 } : RPt)] q.s:=⟨fun p hp=>by rw[List.mem_singleton] at hp;subst hp;exact ⟨rfl,hq0⟩,by simp⟩
     exact this.seg
    exact h0.append hseg
   have hS:Sim ct (l.set a.length { q with what:=0 }) ⟨s.f,s.k,s.ps,os⟩:=
    ⟨h.fk,h.kl,⟨a ++ { q with what:=0 } :: b,l2,hset,by
     show Br _ s.ps os
     rw[hps];exact hbr1.ext hq2,htx⟩,h.sp⟩
   rw[h1,← h93]
   exact hS.text1 93 hb (by decide)
  ·rw[hfo] at hk
   have hk:=Option.some.inj hk
   subst hk
   rw[hga] at hq'
   have:=Option.some.inj hq'
   subst this
   have hok:S.zd1 (ct.data.toList.drop (s.k+1))=true:=by
    unfold tgt at htg
    cases hok:S.zd1 (ct.data.toList.drop (s.k+1)) with
    | true=>rfl
    | false=>rw[hok] at htg;simp at htg
   have hdead:o.dead=false:=by rw[hoe];exact hd
   have hoj:o.j=x.length:=by rw[hoe]
   have hoi:o.image=q.im:=by rw[hoe]
   have hAl:(S.addrOf (ct.data.toList.drop (s.k+1))).length=S.zb1 [40,41,60,62] (ct.data.toList.drop (s.k+1+1)):=by
    unfold S.addrOf
    rw[List.drop_drop,List.length_take]
    have:=S.zho [40,41,60,62] (ct.data.toList.drop (s.k+1+1))
    omega
   have htgt:tgt ct.data.toList (s.k+1)=s.k+(3+(S.addrOf (ct.data.toList.drop (s.k+1))).length):=by
    rw[hAl]
    unfold tgt
    rw[if_pos hok];omega
   have haddr:(ct.data.toList.take (tgt ct.data.toList (s.k+1)-1)).drop (s.k+2)=S.addrOf (ct.data.toList.drop (s.k+1)):=by
    rw[htgt,hAl,show s.k+(3+S.zb1 [40,41,60,62] (ct.data.toList.drop (s.k+1+1)))-1=(s.k+2)+S.zb1 [40,41,60,62] (ct.data.toList.drop (s.k+1+1)) from by omega,List.drop_take]
    unfold S.addrOf
    rw[List.drop_drop]
    congr 1
    omega
   have hclose:s.close ct=(true,⟨s.k+(3+(S.addrOf (ct.data.toList.drop (s.k+1))).length),s.k+(3+(S.addrOf (ct.data.toList.drop (s.k+1))).length),x++[zhn (S.addrOf (ct.data.toList.drop (s.k+1))) q.im (y++zcw ct s.f s.k)],if q.im then os else os.map Opn.kill⟩):=by
    unfold St.close
    rw[hlast,hdl]
    dsimp only
    have htk:(x++zbj q.s::y).take x.length=x:=by rw[List.take_append_of_le_length (Nat.le_refl _),List.take_length]
    have hdr:(x++zbj q.s::y).drop (x.length+1)=y:=by
     rw[List.drop_append,List.drop_eq_nil_of_le (by omega),show x.length+1-x.length=1 from by omega];rfl
    rw[if_pos ⟨hdead,hok⟩,hoj,hoi,hps,htk,hdr]
   rw[hclose]
   simp only[if_true]
   refine ⟨?_,by rw[h2,htgt]⟩
   have hns:ns=zf1 (zd7 (y++zcw ct s.f s.k)):=by
    have hd2:l.drop (a.length+1)=b++l2:=by
     rw[hl3,List.drop_append,List.drop_eq_nil_of_le (by omega),show a.length+1-a.length=1 from by omega];rfl
    rw[hd2] at hp
    have hsg:=hseg.append htx.skip
    exact zkr _ _ _ hsg.2.2.2 hsg.2.1 hsg.2.2.1 hp
   have hta:l.take a.length=a:=by rw[hl3,List.take_append_of_le_length (Nat.le_refl _),List.take_length]
   have hcl:Sg [zcx (.nd (if q.im=true then 13 else 12) 0 (S.addrOf (ct.data.toList.drop (s.k+1))) [] 0 ns)] [zhn (S.addrOf (ct.data.toList.drop (s.k+1))) q.im (y++zcw ct s.f s.k)]:=by
    refine Sg.node _ _ (by show ¬ (if q.im=true then (13:Int) else 12)=8;split <;> decide) ⟨rfl,rfl⟩ ?_
    rw[zsg,hns];rfl
   have hbr2:Br (a.map (zbi q.im)) x (if q.im=true then os else os.map Opn.kill):=by
    cases hi:q.im with
    | true=>
     rw[if_pos rfl]
     have:a.map (zbi true)=a:=by
      rw[show zbi true=id from funext zrm,List.map_id]
     rw[this];exact hbr1
    | false=>
     simp only[Bool.false_eq_true,if_false]
     exact hbr1.kill
   rw[h1,haddr,hta]
   refine ⟨Nat.le_refl _,?_,⟨_,[],(List.append_nil _).symm,hbr2.ext hcl,?_⟩,.inl ?_⟩
   ·have:=hpl.2.1;rw[h2,htgt,S.length_data] at this;exact this
   ·show TxtR [] ((ct.data.toList.drop _).take (_-_))
    rw[Nat.sub_self];exact TxtR.nil
   ·have:=hpl.2.2;rw[h2,htgt] at this;exact this
theorem Sim.step {ct:ByteArray} {l:List RPt} {s:St} {ns:List Rn} (h:Sim ct l s) (hk:s.k<ct.size) (hw:WTo ct.data.toList l s.k ns):∃ l',Sim ct l' (step ct s)∧WTo ct.data.toList l' (step ct s).k ns:=by
 obtain ⟨t,ht⟩:∃ t,ct.data.toList=t:=⟨_,rfl⟩
 have hlt:s.k<t.length:=by rw[← ht,S.length_data];exact hk
 have hbk:t[s.k]?=some ct[s.k]:=by rw[← ht];exact S.zaf ct s.k hk
 have hsize:ct.size=t.length:=by rw[← ht,S.length_data]
 rw[zf4 ct s hk]
 rw[ht] at hw
 have hspk:=h.sp
 rw[ht] at hspk
 generalize ct[s.k]=b at hbk
 obtain ⟨l',i',hs,hr⟩:=hw.next hlt
 have hs0:=hs
 obtain ⟨c,hc,hst⟩:=hs
 rw[hbk] at hc
 have:=Option.some.inj hc
 subst this
 unfold zj3
 rw[ht]
 have hnext:s.k+1≤ct.size:=by omega
 have htx1:∀ (h32:b≠32),Sim ct (l++[txtR ((t.drop s.k).take 1)]) (s.text 1):=fun h32=>by
  have:=h.text1 b (by rw[ht];exact hbk) h32
  rwa [ht] at this
 have hlast:∀ (h32:b≠32),(l'=l++[txtR ((t.drop s.k).take 1)]∧i'=s.k+1)→∃ l',Sim ct l' (s.text 1)∧WTo t l' (s.text 1).k ns:=fun h32 he=>by
  refine ⟨_,htx1 h32,?_⟩
  rw[he.1,he.2] at hr
  exact hr
 have hz:∀ (n:Nat) (c:UInt8),t[n]?=some c→c≠32→spB ct.data.toList (n+1)=0:=fun n c h1 h2=>by rw[ht];exact zdw t n c h1 h2
 by_cases h92:b=92
 ·subst h92
  rw[if_pos rfl]
  by_cases hn:t[s.k+1]?=some 10
  ·rw[if_pos ((zsn t s.k 92 10).2 ⟨hbk,hn⟩)]
   rw[if_pos ⟨rfl,hn⟩] at hst
   have hn2:=(List.getElem?_eq_some_iff.1 hn).1
   refine ⟨_,h.lay 2 (zia 10 [] (by decide)) (by omega) (hz _ 10 hn (by decide)),?_⟩
   rw[hst.1,hst.2] at hr;exact hr
  ·rw[if_neg (fun e=>hn ((zsn t s.k 92 10).1 e).2)]
   rw[if_neg (fun e=>hn e.2)] at hst
   have hesc:S.escapes (t.drop s.k)=true↔(t[s.k+1]?.map S.mark)=some true:=by
    unfold S.escapes
    rw[List.getElem?_drop]
    cases t[s.k+1]? with
    | none=>simp
    | some d=>simp
   by_cases he:S.escapes (t.drop s.k)=true
   ·rw[if_pos he]
    rw[if_pos ⟨rfl,hesc.1 he⟩] at hst
    obtain ⟨d,hd,hdm⟩:∃ d,t[s.k+1]?=some d∧S.mark d=true:=by
     have:=hesc.1 he
     cases hx:t[s.k+1]? with
     | none=>rw[hx] at this;simp at this
     | some d=>rw[hx] at this;exact ⟨d,rfl,by simpa using this⟩
    have hd2:=(List.getElem?_eq_some_iff.1 hd).1
    have hd32:d≠32:=fun e=>by rw[e] at hdm;revert hdm;decide
    refine ⟨l++[txtR ((t.drop (s.k+1)).take 1)],?_,?_⟩
    ·have hS:Sim ct l (s.skip ct 1):=⟨Nat.le_refl _,by show s.k+1≤_;omega,⟨l,[],by simp,h.flush,by
      show TxtR [] ((ct.data.toList.drop (s.k+1)).take (s.k+1-(s.k+1)))
      rw[Nat.sub_self];exact TxtR.nil⟩,.inl (hz _ 92 hbk (by decide))⟩
     have:=hS.text1 d (by show ct.data.toList[s.k+1]?=_;rw[ht];exact hd) hd32
     rw[ht] at this;exact this
    ·rw[hst.1,hst.2] at hr;exact hr
   ·rw[if_neg he]
    refine hlast (by decide) (zgl hbk hs0 (fun e=>hn e.2) (fun e=>he (hesc.2 e.2)) (by decide) (by rintro ⟨h,_⟩;revert h;decide) (by decide) (by decide) (by decide) (by rintro ⟨h,_⟩;revert h;decide) (by decide))
 rw[if_neg h92]
 rw[if_neg (fun e=>h92 e.1),if_neg (fun e=>h92 e.1)] at hst
 by_cases h96:b=96
 ·subst h96
  rw[if_pos rfl]
  rw[if_pos rfl] at hst
  obtain ⟨hsm,hc1,hcl,hall,hend,hrep⟩:=znk t s.k 96 hbk
  rw[hsm]
  obtain ⟨n,hn⟩:∃ n,S.cnt 96 (t.drop s.k)=n:=⟨_,rfl⟩
  rw[hn] at hst hc1 hcl hall hrep ⊢
  have hgr:grv t s.k=grvV s.k n (S.ze6 (t.drop s.k) n):=by unfold grv;rw[hn]
  cases hv:S.ze6 (t.drop s.k) n with
  | some v=>
   rw[hv] at hgr
   have hgr:grv t s.k=s.k+v+n:=hgr
   have hgb:=zlf t s.k (by rw[hn];exact hc1) (by rw[hgr];omega)
   rw[hn,hgr] at hgb
   rw[if_pos (by rw[hgr];omega)] at hst
   dsimp only
   refine ⟨_,h.lay (p:=zgc ct s.k n v) (v+n) (zia 11 (S.zc9 ((ct.data.toList.drop (s.k+n)).take (v-n))) (by decide)) (by omega) (by
    have:=hz (s.k+v+n-1) 96 hgb.2.2 (by decide)
    rwa [show s.k+v+n-1+1=s.k+(v+n) from by omega] at this),?_⟩
   rw[hst.1,hst.2,hgr,ztc,show s.k+v+n-n-(s.k+n)=v-n from by omega] at hr
   rw[ht]
   show WTo t _ (s.k+(v+n)) ns
   rw[← Nat.add_assoc];exact hr
  | none=>
   rw[hv] at hgr
   have hgr:grv t s.k=0:=hgr
   rw[if_neg (by omega)] at hst
   dsimp only
   refine ⟨l++[txtR ((t.drop s.k).take n)],?_,?_⟩
   ·have:=h.text (g:=[txtR ((t.drop s.k).take n)]) n (by rw[ht];exact TxtR.one _) (by omega) (.inl (by
     have:=hz (s.k+(n-1)) 96 (hall _ (by omega)) (by decide)
     rwa [show s.k+(n-1)+1=s.k+n from by omega] at this))
    exact this
   ·rw[hst.1,hst.2] at hr;exact hr
 rw[if_neg h96]
 rw[if_neg h96] at hst
 by_cases h32:b=32
 ·subst h32
  rw[if_pos rfl]
  obtain ⟨hsm,hc1,hcl,hall,hend,hrep⟩:=znk t s.k 32 hbk
  rw[hsm]
  obtain ⟨n,hn⟩:∃ n,S.cnt 32 (t.drop s.k)=n:=⟨_,rfl⟩
  rw[hn] at hc1 hcl hall hend hrep ⊢
  have hsp0:spB t s.k=0:=by
   rcases hspk with h1|h1
   ·exact h1
   ·exact absurd hbk h1.1
  have hspn:=z0l t s.k n hall
  rw[hsp0,Nat.zero_add] at hspn
  have hgo:=zwk t l s.k n ns hall hw
  by_cases hnl:t[s.k+n]?=some 10
  ·rw[if_pos ((zof t (s.k+n) 10).2 hnl)]
   have hnl2:=(List.getElem?_eq_some_iff.1 hnl).1
   obtain ⟨l2,i2,hs2,hr2⟩:=hgo.next hnl2
   obtain ⟨c2,hc2,hst2⟩:=hs2
   rw[hnl] at hc2
   have:=Option.some.inj hc2
   subst this
   rw[if_neg (by rintro ⟨h,_⟩;revert h;decide),if_neg (by rintro ⟨h,_⟩;revert h;decide),if_neg (by decide),if_neg (by rintro ⟨h,_⟩;revert h;decide),if_pos rfl,hspn] at hst2
   have htk:(l++List.replicate n (txtR [32])).take ((l++List.replicate n (txtR [32])).length-n)=l:=by
    rw[List.length_append,List.length_replicate,Nat.add_sub_cancel,List.take_append_of_le_length (Nat.le_refl _),List.take_length]
   rw[htk] at hst2
   have hzz:=hz (s.k+n) 10 hnl (by decide)
   rw[hst2.1,hst2.2] at hr2
   by_cases h2:2≤n
   ·rw[if_pos h2]
    rw[if_pos h2] at hr2
    exact ⟨_,h.lay (n+1) (zia 10 [] (by decide)) (by omega) hzz,hr2⟩
   ·rw[if_neg h2]
    rw[if_neg h2] at hr2
    exact ⟨_,h.lay (n+1) (zia 9 [] (by decide)) (by omega) hzz,hr2⟩
  ·rw[if_neg (fun e=>hnl ((zof t (s.k+n) 10).1 e))]
   refine ⟨_,h.text n (by rw[ht,hrep];exact zuj n) (by omega) (.inr (by rw[ht];exact ⟨hend,hnl⟩)),hgo⟩
 rw[if_neg h32]
 by_cases h10:b=10
 ·subst h10
  rw[if_pos rfl]
  rw[if_neg (by rintro ⟨h,_⟩;revert h;decide),if_pos rfl] at hst
  have hsp0:spB t s.k=0:=by
   rcases hspk with h1|h1
   ·exact h1
   ·exact absurd hbk h1.2
  rw[hsp0,Nat.sub_zero,List.take_length,if_neg (by decide)] at hst
  refine ⟨_,h.lay 1 (zia 9 [] (by decide)) (by omega) (hz _ 10 hbk (by decide)),?_⟩
  rw[hst.1,hst.2] at hr;exact hr
 rw[if_neg h10]
 by_cases h60:b=60
 ·subst h60
  rw[if_pos rfl]
  by_cases hok:S.zd9 (t.drop s.k)=true
  ·rw[if_pos hok]
   have hang:ang t s.k=s.k+S.zdc (t.drop s.k)+1:=by unfold ang;rw[if_pos hok]
   have hab:=zlp t s.k (by rw[hang];omega)
   rw[hang] at hab
   rw[if_pos ⟨rfl,by rw[hang];omega⟩] at hst
   have hAl:(S.zcf (t.drop s.k)).length=S.zdc (t.drop s.k)-1:=by
    unfold S.zcf
    rw[List.drop_drop,List.length_take,List.length_drop];omega
   have hE:1≤S.zdc (t.drop s.k):=by omega
   refine ⟨l++[zmi (S.zcf (t.drop s.k))],h.lay _ (Sg.node _ _ (show ¬ (12:Int)=8 from by decide) ⟨rfl,rfl⟩ (by simp only[zj0,zbj,toRn,zf1])) (by rw[hAl];omega) (by
    have:=hz (s.k+S.zdc (t.drop s.k)+1-1) 62 hab.2.2 (by decide)
    rwa [show s.k+S.zdc (t.drop s.k)+1-1+1=s.k+((S.zcf (t.drop s.k)).length+2) from by rw[hAl];omega] at this),?_⟩
   rw[hst.1,hst.2,hang] at hr
   have he:(t.drop (s.k+1)).take (s.k+S.zdc (t.drop s.k)+1-1-(s.k+1))=S.zcf (t.drop s.k):=by
    unfold S.zcf
    rw[List.drop_drop]
    congr 1;omega
   rw[he] at hr
   show WTo t _ (s.k+((S.zcf (t.drop s.k)).length+2)) ns
   rw[hAl,show s.k+(S.zdc (t.drop s.k)-1+2)=s.k+S.zdc (t.drop s.k)+1 from by omega]
   exact hr
  ·rw[if_neg hok]
   have hang:ang t s.k=0:=by unfold ang;rw[if_neg hok]
   exact hlast (by decide) (zgl hbk hs0 (fun e=>h92 e.1) (fun e=>h92 e.1) h96 (by rw[hang];omega) (by decide) (by decide) (by decide) (by rintro ⟨h,_⟩;revert h;decide) (by decide))
 rw[if_neg h60]
 rw[if_neg (fun e=>h60 e.1),if_neg h10] at hst
 by_cases hrun:b=42∨b=95
 ·rw[if_pos hrun]
  rw[if_pos hrun] at hst
  obtain ⟨hsm,hc1,hcl,hall,hend,hrep⟩:=znk t s.k b hbk
  rw[hsm] at hst ⊢
  obtain ⟨n,hn⟩:∃ n,S.cnt b (t.drop s.k)=n:=⟨_,rfl⟩
  rw[hn] at hst hsm hc1 hcl hall hend hrep ⊢
  have hb32:b≠32:=h32
  have hrunR:runR t s.k=⟨2,[],zpp,b,n,n,S.zby t s.k n,S.zbe t s.k n,false,false⟩:=by
   unfold runR;rw[hsm,hbk];rfl
  have hrunP:zk7 ct s.k n = .mk 8 [] (List.replicate n b) [] n (S.zby t s.k n) (S.zbe t s.k n):=by
   unfold zk7;rw[ht,hrep]
  refine ⟨l++[runR t s.k],h.lay n ?_ (by omega) (by
   have:=hz (s.k+(n-1)) b (hall _ (by omega)) hb32
   rwa [show s.k+(n-1)+1=s.k+n from by omega] at this),?_⟩
  ·rw[hrunR,hrunP]
   refine ⟨fun q hq=>?_,fun q hq=>?_,fun q hq=>?_,?_⟩
   ·rw[List.mem_singleton] at hq;subst hq;exact show ¬ (2:Int)=3 from by decide
   ·rw[List.mem_singleton] at hq;subst hq;exact .inl ⟨rfl,rfl⟩
   ·rw[List.mem_singleton] at hq;subst hq
    exact .inl ⟨rfl,rfl,rfl,.inr ⟨b,by show List.replicate n b=List.replicate (List.replicate n b).length b;rw[List.length_replicate]⟩⟩
   ·rw[zfz,zdx,zk9,List.append_nil]
    have e1:amR ⟨2,[],zpp,b,n,n,S.zby t s.k n,S.zbe t s.k n,false,false⟩=runA b n n (S.zby t s.k n) (S.zbe t s.k n):=by
     unfold amR;rw[if_neg (show ¬ (2:Int)=1 from by decide)];rfl
    have e2:amP (.mk 8 [] (List.replicate n b) [] n (S.zby t s.k n) (S.zbe t s.k n))=if S.zby t s.k n=false∧S.zbe t s.k n=false then (List.replicate n b).map Am.b else runA ((List.replicate n b).headD 0) (List.replicate n b).length n (S.zby t s.k n) (S.zbe t s.k n):=by
     unfold amP;rw[if_pos (show (Pt.mk 8 [] (List.replicate n b) [] n (S.zby t s.k n) (S.zbe t s.k n)).kind=8 from rfl)];rfl
    rw[e1,e2,List.length_replicate,List.map_replicate]
    have hhd:(List.replicate n b).headD 0=b:=by
     cases n with
     | zero=>omega
     | succ n=>rfl
    rw[hhd]
    unfold runA
    rw[if_neg (by omega)]
    split <;> rfl
  ·rw[hst.1,hst.2] at hr;exact hr
 rw[if_neg hrun]
 rw[if_neg hrun] at hst
 by_cases h93:b=93
 ·subst h93
  rw[if_pos (.inr (.inr rfl))]
  rw[if_neg (by decide),if_neg (by rintro ⟨h,_⟩;revert h;decide),if_pos rfl] at hst
  have hbr:s.bracket ct=s.close ct:=by
   unfold St.bracket
   rw[ht,if_pos ((zof t s.k 93).2 hbk)]
  rw[hbr]
  rw[← ht] at hst hr
  have:=h.close (by rw[ht];exact hbk) hst
  refine ⟨l',this.1,?_⟩
  rw[← this.2,← ht];exact hr
 by_cases h91:b=91
 ·subst h91
  rw[if_pos (.inr (.inl rfl))]
  rw[if_pos rfl] at hst
  have hbr:s.bracket ct=(true,s.open ct [91] false):=by
   unfold St.bracket
   rw[ht,if_neg (fun e=>by have:=(zof t s.k 93).1 e;rw[hbk] at this;revert this;decide),if_pos ((zof t s.k 91).2 hbk)]
  rw[hbr]
  simp only[if_true]
  refine ⟨_,h.open [91] false (by show s.k+1≤_;omega) (hz _ 91 hbk (by decide)),?_⟩
  rw[hst.1,hst.2] at hr;exact hr
 rw[if_neg h91] at hst
 by_cases h33:b=33
 ·subst h33
  rw[if_pos (.inl rfl)]
  by_cases hn:t[s.k+1]?=some 91
  ·rw[if_pos ⟨rfl,hn⟩] at hst
   have hn2:=(List.getElem?_eq_some_iff.1 hn).1
   have hbr:s.bracket ct=(true,s.open ct [33,91] true):=by
    unfold St.bracket
    rw[ht,if_neg (fun e=>by have:=(zof t s.k 93).1 e;rw[hbk] at this;revert this;decide),if_neg (fun e=>by have:=(zof t s.k 91).1 e;rw[hbk] at this;revert this;decide),if_pos ((zsn t s.k 33 91).2 ⟨hbk,hn⟩)]
   rw[hbr]
   simp only[if_true]
   refine ⟨_,h.open [33,91] true (by show s.k+2≤_;omega) (hz (s.k+1) 91 hn (by decide)),?_⟩
   rw[hst.1,hst.2] at hr;exact hr
  ·have hbr:s.bracket ct=(false,s):=by
    unfold St.bracket
    rw[ht,if_neg (fun e=>by have:=(zof t s.k 93).1 e;rw[hbk] at this;revert this;decide),if_neg (fun e=>by have:=(zof t s.k 91).1 e;rw[hbk] at this;revert this;decide),if_neg (fun e=>hn ((zsn t s.k 33 91).1 e).2)]
   rw[hbr]
   simp only[Bool.false_eq_true,if_false]
   exact hlast (by decide) (zgl hbk hs0 (fun e=>h92 e.1) (fun e=>h92 e.1) h96 (fun e=>h60 e.1) h10 hrun h91 (fun e=>hn e.2) h93)
 ·rw[if_neg (fun e=>e.elim h33 (fun e=>e.elim h91 h93))]
  exact hlast h32 (zgl hbk hs0 (fun e=>h92 e.1) (fun e=>h92 e.1) h96 (fun e=>h60 e.1) h10 hrun h91 (fun e=>h33 e.1) h93)
theorem Ends.same {ct:ByteArray} {s:St} {r:List Pt} (h:Ends ct s r):∀ l ns,Sim ct l s→WTo ct.data.toList l s.k ns→ns=zf1 (zd7 r):=by
 induction h with
 | done s hk=>
  intro l ns hS hw
  cases hw with
  | done _ _ _ _ hp=>
   have hf:=hS.flush
   exact zkr _ _ _ hf.all.2.2 hf.all.1 hf.all.2.1 hp
  | step _ _ _ _ _ hs _=>
   obtain ⟨c,hc,_⟩:=hs
   have:=(List.getElem?_eq_some_iff.1 hc).1
   rw[S.length_data] at this
   omega
 | go s r hk hr ih=>
  intro l ns hS hw
  obtain ⟨l',h1,h2⟩:=hS.step hk hw
  exact ih l' ns h1 h2
theorem zu4 (ct:ByteArray) (s:St):s.k≤(s.bracket ct).2.k∧((s.bracket ct).1=true→s.k<(s.bracket ct).2.k):=by
 unfold St.bracket
 split
 ·unfold St.close
  split
  ·exact ⟨Nat.le_refl _,fun h=>by cases h⟩
  ·split
   ·exact ⟨Nat.le_add_right _ _,fun _=>by show s.k<s.k+(3+_);omega⟩
   ·exact ⟨Nat.le_refl _,fun h=>by cases h⟩
 ·split
  ·exact ⟨Nat.le_add_right _ _,fun _=>by show s.k<s.k+1;omega⟩
  ·split
   ·exact ⟨Nat.le_add_right _ _,fun _=>by show s.k<s.k+2;omega⟩
   ·exact ⟨Nat.le_refl _,fun h=>by cases h⟩
theorem zvp (ct:ByteArray) (s:St) (hk:s.k<ct.size):s.k<(step ct s).k:=by
 rw[zf4 ct s hk]
 have hsm:=(zfy ct s.k hk).1
 unfold zj3
 split
 ·split
  ·show s.k<s.k+2;omega
  ·split
   ·show s.k<s.k+1+1;omega
   ·show s.k<s.k+1;omega
 ·split
  ·split
   ·show s.k<s.k+(_+S.same _);omega
   ·show s.k<s.k+S.same _;omega
  ·split
   ·split
    ·split
     ·show s.k<s.k+(_+1);omega
     ·show s.k<s.k+(_+1);omega
    ·show s.k<s.k+S.same _;omega
   ·split
    ·show s.k<s.k+1;omega
    ·split
     ·split
      ·show s.k<s.k+(_+2);omega
      ·show s.k<s.k+1;omega
     ·split
      ·show s.k<s.k+S.same _;omega
      ·split
       ·have hb:=zu4 ct s
        split
        ·rename_i h;exact hb.2 h
        ·show s.k<(s.bracket ct).2.k+1;omega
       ·show s.k<s.k+1;omega
theorem Sim.ends {ct:ByteArray} {ns:List Rn} (n:Nat):∀ (l:List RPt) (s:St),ct.size-s.k≤n→Sim ct l s→WTo ct.data.toList l s.k ns→∃ r,Ends ct s r:=by
 induction n with
 | zero=>
  intro l s hn hS hw
  exact ⟨_,Ends.done s (by have:=hS.kl;omega)⟩
 | succ n ih=>
  intro l s hn hS hw
  by_cases hk:s.k<ct.size
  ·obtain ⟨l',h1,h2⟩:=hS.step hk hw
   have:=zvp ct s hk
   obtain ⟨r,hr⟩:=ih l' (Go.Proofs.YtlojgpkajkedeaaGreatDoor.step ct s) (by omega) h1 h2
   exact ⟨r,Ends.go s r hk hr⟩
  ·exact ⟨_,Ends.done s (by have:=hS.kl;omega)⟩
theorem zpa (c:List UInt8) (ns:List Rn) (h:WTo c [] 0 ns):ns=zf1 (zi9 c):=by
 have hS:Sim (S.B c) [] zfq:=⟨Nat.le_refl _,Nat.zero_le _,⟨[],[],rfl,Br.base _ _ Sg.nil,TxtR.nil⟩,.inl rfl⟩
 have hw:WTo (S.B c).data.toList [] zfq.k ns:=by rw[S.zcn];exact h
 obtain ⟨r,hE⟩:=Sim.ends _ [] zfq (Nat.le_refl _) hS hw
 rw[zkb c r hE]
 exact hE.same [] ns hS hw
mutual
theorem zvo (d:Nat):∀ p:Pt,zo6 d (toRn p)=zqw d p
 | .mk k i t kids _ _ _=>by
  simp only[toRn,zo6,zqw]
  rw[zj1 (d+1) kids]
theorem zj1 (d:Nat):∀ l:List Pt,zbv d (zf1 l)=zc5 d l
 | []=>by simp only[zf1,zbv,zc5]
 | p::r=>by
  simp only[zf1,zbv,zc5]
  rw[zvo d p,zj1 d r]
end
abbrev CT (s:List UInt8) (ns:List Rn):Prop:=ns=zf1 (zi9 s)
mutual
theorem z1c (d:Nat) (z:Int) (b:S.Blk) (n:Rn) (h:MatB CT z b n) (hk:nkB b):zo6 d n=zls zh0 d b:=by
 cases b with
 | at_ li k m i t lo ks=>
  cases n with
  | nd k' m' i' t' l' ks'=>
   simp only[MatB] at h
   simp only[nkB] at hk
   obtain ⟨rfl,rfl,rfl,rfl,_,h⟩:=h
   simp only[zo6,zls]
   rw[zwn]
   congr 1
   by_cases hkk:k'=1∨k'=2
   ·rw[if_pos hkk] at h
    rw[if_pos hkk,hk.1 hkk,h,zj1]
    unfold zh0
    simp only[zcg,List.append_nil]
   ·rw[if_neg hkk] at h
    rw[if_neg hkk,List.nil_append]
    exact zww (d+1) _ ks ks' h hk.2
theorem zww (d:Nat) (z:Int) (bs:List S.Blk) (ns:List Rn) (h:MatL CT z bs ns) (hk:nkL bs):zbv d ns=zcg zh0 d bs:=by
 cases bs with
 | nil=>
  cases ns with
  | nil=>rfl
  | cons n s=>simp only[MatL] at h
 | cons b r=>
  cases ns with
  | nil=>simp only[MatL] at h
  | cons n s=>
   simp only[MatL] at h
   simp only[nkL] at hk
   simp only[zbv,zcg]
   rw[z1c d z b n h.1 hk.1,zww d z r s h.2 hk.2]
end
theorem ztx (l:List UInt8) (ns:List Rn) (h:MatL (fun s ns=>WTo s [] 0 ns) 0 (S.za2 (l.length+1) (S.lines l)).1 ns):zbv 0 ns=zem l:=by
 unfold zem
 exact zww 0 0 _ ns (h.mono (fun s ns h=>zpa s ns h)) (zu6 _ _)
end Go.Proofs.YtlojgpkajkedeaaGreatDoor
