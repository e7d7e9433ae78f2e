import Derived.Test.YtlojgpkajkedeaaGreatDoorNE24
import Derived.Test.YtlojgpkajkedeaaGreatDoorNRZ
import Derived.Test.YtlojgpkajkedeaaGreatDoorNTF
import Derived.Test.YtlojgpkajkedeaaGreatDoorNTH
set_option maxHeartbeats 16000000
set_option maxRecDepth 100000
namespace Go.Proofs.YtlojgpkajkedeaaGreatDoor
open Go.RowKit Go.Proofs.Tryz
mutual
def toRn:Pt->Rn
 | .mk k i t kids _ _ _=>.nd k 0 i t 0 (zda kids)
def zda:List Pt->List Rn
 | []=>[]
 | p::r=>toRn p::zda r
end
theorem zk0 (p:Pt)(r:List Pt):zda (p::r)=toRn p::zda r:=by simp only[zda]
theorem zt4 (p:Pt):toRn p=.nd p.kind 0 p.info p.text 0 (zda p.kids):=by cases p;simp only[toRn];rfl
inductive Am where
 | b (c:UInt8)
 | run (c:UInt8) (left n:Nat) (op cl:Bool)
 | nd (n:Rn)
def ze2:List Am->List UInt8->List Rn
 | [],t=>zkn t
 | .b c::r,t=>ze2 r (t++[c])
 | .run c left _ _ _::r,t=>ze2 r (t++List.replicate left c)
 | .nd n::r,t=>zkn t++n::ze2 r []
def runA (c:UInt8)(left n:Nat)(op cl:Bool):List Am:=if left=0 then [] else if op=false/\cl=false then List.replicate left (.b c) else [.run c left n op cl]
theorem zgt (u:List UInt8)(r:List Am)(t:List UInt8):ze2 (u.map Am.b++r) t=ze2 r (t++u):=by
 induction u generalizing t with
 | nil=>simp
 | cons c u ih=>simp only[Qs,List.cons_append,ze2];rw[ih];simp
theorem znm (c:UInt8)(left n:Nat)(op cl:Bool)(r:List Am)(t:List UInt8):ze2 (runA c left n op cl++r) t=ze2 r (t++List.replicate left c):=by
 unfold runA;split
 ·rename_i h;subst h;simp
 ·split
  ·rw[<-List.map_replicate,zgt]
  ·rfl
def amR (p:RPt):List Am:=if p.what=1 then [.nd p.node] else p.s.map Am.b++runA p.c p.left p.n p.op p.cl
def amsR (l:List RPt):List Am:=l.flatMap amR
theorem zea (a b:List RPt):amsR (a++b)=amsR a++amsR b:=by simp[amsR]
theorem ze4 (p:RPt)(r:List RPt):amsR (p::r)=amR p++amsR r:=by simp[amsR]
theorem zl1:amsR []=[]:=rfl
theorem zuf (l:List RPt)(t:List UInt8):ze3 l t=ze2 (amsR l) t:=by
 induction l generalizing t with
 | nil=>rfl
 | cons p r ih=>
  simp only[ze3];rw[ze4];unfold amR;split
  ·rw[ih];rfl
  ·rw[ih,Qp (p.s.map Am.b),zgt,znm]
def WfR (p:RPt):Prop:=(p.what=2/\p.s=[])\/p.what=1\/(p.what≠1/\p.what≠2/\p.left=0)
def amP (p:Pt):List Am:=if p.kind=8 then (if p.ro=false/\p.rc=false then p.text.map Am.b else runA (p.text.headD 0) p.text.length p.rs p.ro p.rc) else [.nd (toRn p)]
def amsP (l:List Pt):List Am:=l.flatMap amP
theorem zec (a b:List Pt):amsP (a++b)=amsP a++amsP b:=by simp[amsP]
theorem ze0 (p:Pt)(r:List Pt):amsP (p::r)=amP p++amsP r:=by simp[amsP]
theorem zv2:amsP []=[]:=rfl
theorem zge (p:Pt):amsP [p]=amP p:=by simp[amsP]
def WfP (p:Pt):Prop:=(p.kind=8/\p.info=[]/\p.kids=[]/\((p.ro=false/\p.rc=false)\/∃c,p.text=List.replicate p.text.length c))\/(¬p.kind=8/\p.ro=false/\p.rc=false)
def WfPs (l:List Pt):Prop:=∀p∈l,WfP p
theorem znk (p:Pt)(h:WfP p)(h8:p.kind=8)(r:List Am)(t:List UInt8):ze2 (amP p++r) t=ze2 r (t++p.text):=by
 unfold amP;rw[if_pos h8];rcases h with ⟨_,_,_,h⟩|⟨h,_⟩
 ·split
  ·exact zgt _ _ _
  ·rename_i hn;rcases h with h|⟨c,h⟩
   ·exact absurd h hn
   ·rw[znm];congr 2
    rw[h];cases p.text.length with
    | zero=>rfl
    | succ n=>simp[List.replicate_succ]
 ·exact absurd h8 h
theorem z3g (f:Nat):(∀r:List Pt,r.length<=f->WfPs r->zda (zdy f r)=ze2 (amsP r) []) /\
  (∀(p:Pt) (r:List Pt),r.length+1<=f->p.kind=8->p.info=[]->p.kids=[]->WfPs r->zda (zdy f (p::r))=ze2 (amsP r) p.text):=by
 induction f with
 | zero=>
  refine⟨λr hr _=>?_,λp r hr=>by omega⟩;have:r=[]:=Qbg.1 (by omega);subst this;rfl
 | succ f ih=>
  have h1:∀(p:Pt) (r:List Pt),r.length+1<=f+1->p.kind=8->p.info=[]->p.kids=[]->WfPs r->zda (zdy (f+1) (p::r))=ze2 (amsP r) p.text:=by
   intro p r hr h8 hi hk hw;simp only[zdy];rw[if_pos h8];have hrn:toRn p=.nd 8 0 [] p.text 0 []:=by rw[zt4,h8,hi,hk];simp only[zda]
   split
   ·rename_i ht;rw[ht];exact ih.1 r (by omega) hw
   ·rename_i ht;have hfl:zkn p.text=[.nd 8 0 [] p.text 0 []]:=(by unfold zkn;rw[if_neg ht]);cases r with
    | nil=>
     rw[zk0,hrn];simp only[zv2,ze2,zda];exact hfl.symm
    | cons q r'=>
     have hwq:=hw q (Qx ..);have hwr:WfPs r':=λx hx=>hw x (Qo _ hx);dsimp only;rw[ze0];split
     ·rename_i hq;rw[znk q hwq hq];have hq2:=hwq;rcases hq2 with ⟨_,h2,h3,_⟩|⟨h,_⟩
      ·rw[ih.2 (q.za4 (p.text++q.text)) r' (by simpa using hr) hq h2 h3 hwr];rfl
      ·exact absurd hq h
     ·rename_i hq;rw[zk0,ih.1 (q::r') (by simpa using hr) hw,ze0];unfold amP;rw[if_neg hq,hrn];simp only[List.singleton_append,ze2];rw[hfl];rfl
  refine⟨λr hr hw=>?_,h1⟩;cases r with
  | nil=>rfl
  | cons p r=>
   have hwp:=hw p (Qx ..);have hwr:WfPs r:=λx hx=>hw x (Qo _ hx);by_cases h8:p.kind=8
   ·have bg:=hwp;rcases bg with ⟨_,h2,h3,_⟩|⟨h,_⟩
    ·rw[h1 p r (by simpa using hr) h8 h2 h3 hwr,ze0,znk p hwp h8];rfl
    ·exact absurd h8 h
   ·rw[zlj f p r h8,zk0,ih.1 r (by simpa using hr) hwr,ze0];unfold amP;rw[if_neg h8];rfl
theorem zy4 (l:List Pt)(h:WfPs l):zda (zfv l)=ze2 (amsP l) []:=(z3g l.length).1 l (Qc _) h
def zlq:Am->Bool
 | .run _ _ _ _ cl=>cl
 | _=>false
def znu (s p:Am):Bool:=match s,p with
 | .run sc _ sn so _,.run c _ n op cl=>op&&(decide (c=sc)&&S.fits n cl sn so)
 | _,_=>false
def zfx (s:Am):List Am->Option (List Am × Am × List Am)
 | []=>none
 | p::r=>match zfx s r with
  | some (l1,x,m)=>some (p::l1,x,m)
  | none=>if znu s p=true then some ([],p,r) else none
def z2u:Am->Nat
 | .run _ left _ _ _=>left
 | _=>0
def zA (x s:Am):Nat:=if 1<z2u x/\1<z2u s then 2 else 1
def zy0 (z:Nat):Am->List Am
 | .run c left n op cl=>runA c (left-z) n op cl
 | a=>[a]
def zwr (z:Nat)(m:List Am):Am:=.nd (.nd (if z=2 then 15 else 14) 0 [] [] 0 (ze2 m []))
inductive PA:List Am->List Am->List Am->Prop
 | done (L:List Am):PA L [] L
 | pass (L:List Am) (a:Am) (r res:List Am) (h:zlq a=false\/zfx a L=none) (hr:PA (L++[a]) r res):PA L (a::r) res
 | pair (L:List Am) (a:Am) (r res l1:List Am) (x:Am) (m:List Am) (hc:zlq a=true) (h:zfx a L=some (l1,x,m)) (hr:PA (l1++zy0 (zA x a) x++[zwr (zA x a) m]) (zy0 (zA x a) a++r) res):PA L (a::r) res
theorem PA.det {L r res res2:List Am}(h:PA L r res)(h2:PA L r res2):res=res2:=by
 induction h with
 | done L=>cases h2;rfl
 | pass L a r res h hr ih=>
  cases h2 with
  | pass _ _ _ _ _ hr2=>exact ih hr2
  | pair _ _ _ _ l1 x m hc h3 hr2=>
   rcases h with h|h
   ·rw[hc] at h;cases h
   ·rw[h] at h3;cases h3
 | pair L a r res l1 x m hc h hr ih=>
  cases h2 with
  | pass _ _ _ _ h3 hr2=>
   rcases h3 with h3|h3
   ·rw[hc] at h3;cases h3
   ·rw[h] at h3;cases h3
  | pair _ _ _ _ l1' x' m' hc' h3 hr2=>
   rw[h] at h3;cases h3
   exact ih hr2
theorem PA.passes (xs:List Am)(L r res:List Am)(h:∀a∈xs,zlq a=false)(hr:PA (L++xs) r res):PA L (xs++r) res:=by
 induction xs generalizing L with
 | nil=>simpa using hr
 | cons a xs ih=>
  refine PA.pass L a _ res (.inl (h a (Qx ..))) (ih _ (λx hx=>h x (Qo _ hx)) ?_);rw[Qp];exact hr
theorem zo1 (s:Am)(l:List Am)(h:∀x∈l,znu s x=false):zfx s l=none:=by
 induction l with
 | nil=>rfl
 | cons p r ih=>simp only[zfx];rw[ih (λx hx=>h x (Qo _ hx))];simp[h p (List.mem_cons_self ..)]
theorem zml (s:Am)(a b l1 m:List Am)(x:Am)(h:zfx s b=some (l1,x,m)):zfx s (a++b)=some (a++l1,x,m):=by
 induction a with
 | nil=>exact h
 | cons p r ih=>simp only[List.cons_append,zfx];rw[ih]
theorem znj (s:Am)(a b:List Am)(h:zfx s b=none):zfx s (a++b)=(zfx s a).map (λv=>(v.1,v.2.1,v.2.2++b)):=by
 induction a with
 | nil=>simp[zfx,h]
 | cons p r ih=>
  simp only[List.cons_append,zfx];rw[ih];cases hr:zfx s r with
  | none=>
   simp only[Option.map_none];split<;>rfl
  | some v=>obtain⟨l1,x,m⟩:=v;rfl
theorem zp6 (s:Am)(c:UInt8):znu s (.b c)=false:=by cases s<;>rfl
theorem zrf (s:Am)(n:Rn):znu s (.nd n)=false:=by cases s<;>rfl
theorem zl0 (c:UInt8)(left n:Nat)(op cl:Bool)(h:0<left)(hc:op=true\/cl=true):runA c left n op cl=[.run c left n op cl]:=by
 unfold runA;rw[if_neg (by omega),if_neg];rintro⟨h1,h2⟩;rcases hc with hc|hc
 ·rw[h1] at hc;cases hc
 ·rw[h2] at hc;cases hc
theorem zfz (c:UInt8)(n:Nat)(op cl:Bool):runA c 0 n op cl=[]:=by unfold runA;rw[if_pos rfl]
theorem zld (c:UInt8)(left n:Nat)(op:Bool):∀a∈runA c left n op false,zlq a=false:=by
 intro a ha;unfold runA at ha;split at ha
 ·simp at ha
 ·split at ha
  ·rw[List.mem_replicate] at ha;rw[ha.2];rfl
  ·simp at ha;rw[ha];rfl
theorem zki (u:List UInt8):∀a∈u.map Am.b,zlq a=false:=by
 intro a ha;rw[List.mem_map] at ha;obtain⟨c,_,rfl⟩:=ha;rfl
theorem zq7 (q s:RPt)(h1:q.op=true)(h2:s.cl=true):zxt q s=S.fits q.n q.cl s.n s.op:=by
 unfold zxt S.fits;rw[h1,h2];cases q.cl<;>cases s.op<;>simp[Bool.or_comm]
theorem zz2 (q s:RPt)(hq:WfR q)(hs:s.cl=true)(c:UInt8)(hc:s.c=c)(left n:Nat)(op:Bool)(hn:s.n=n)(ho:s.op=op):zfx (.run c left n op true) (amR q)=if zei q s=true then some ([],.run q.c q.left q.n q.op q.cl,[]) else none:=by
 by_cases hof:zei q s=true
 ·rw[if_pos hof];unfold zei at hof;simp only[Bool.and_eq_true,decide_eq_true_iff] at hof;obtain⟨⟨⟨⟨h1,h2⟩,h3⟩,h4⟩,h5⟩:=hof;have hs0:q.s=[]:=by
   rcases hq with h|h|h
   ·exact h.2
   ·omega
   ·exact absurd h1 h.2.1
  unfold amR;rw[if_neg (by omega),hs0,zl0 _ _ _ _ _ h4 (.inl h3)];have ho2:znu (.run c left n op true) (.run q.c q.left q.n q.op q.cl)=true:=by
   show (q.op&&(decide (q.c=c)&&S.fits q.n q.cl n op))=true;rw[<-hn,<-ho,<-zq7 q s h3 hs,h5,h3,h2,hc];simp
  simp only[List.map_nil,List.nil_append,zfx];rw[if_pos ho2]
 ·rw[if_neg hof];refine zo1 _ _ (λx hx=>?_);unfold amR at hx;split at hx
  ·simp at hx;rw[hx];exact zrf _ _
  ·rename_i hw;rw[Qbh] at hx;rcases hx with hx|hx
   ·rw[List.mem_map] at hx;obtain⟨c,_,rfl⟩:=hx;exact zp6 _ _
   ·unfold runA at hx;split at hx
    ·simp at hx
    ·rename_i hl;split at hx
     ·rw[List.mem_replicate] at hx;rw[hx.2];exact zp6 _ _
     ·simp at hx;rw[hx];have hw2:q.what=2:=by
       rcases hq with h|h|h
       ·exact h.1
       ·exact absurd h hw
       ·exact absurd h.2.2 hl
      show (q.op&&(decide (q.c=c)&&S.fits q.n q.cl n op))=false;cases hqo:q.op with
      | false=>rfl
      | true=>
       have hl':0<q.left:=(by omega);unfold zei at hof;rw[zq7 q s hqo hs,hc,hn,ho] at hof;simp only[hw2,hqo,hl',decide_true,Bool.true_and,Bool.and_true] at hof;simpa using hof
theorem zva (l:List RPt)(s:RPt)(hl:∀p∈l,WfR p)(hs:s.cl=true)(k:Nat)(hk:k<=l.length):zfx (.run s.c s.left s.n s.op true) (amsR (l.take k))=match zc2 l s k with
   | none=>none
   | some j=>match l[j]? with
    | some q=>some (amsR (l.take j),.run q.c q.left q.n q.op q.cl,amsR ((l.take k).drop (j+1)))
    | none=>none:=by
 induction k with
 | zero=>rfl
 | succ k ih=>
  obtain⟨q,hq⟩:∃q,l[k]?=some q:=⟨l[k],Qg (by omega)⟩;have ht:l.take (k+1)=l.take k++[q]:=by rw[List.take_add_one,hq];rfl
  have h1:=zz2 q s (hl q (List.mem_of_getElem? hq)) hs s.c rfl s.left s.n s.op rfl rfl;have ha:amsR (l.take (k+1))=amsR (l.take k)++amR q:=by rw[ht,zea];simp[amsR]
  rw[ha];simp only[zc2,hq];by_cases hof:zei q s=true
  ·rw[if_pos hof] at h1 ⊢;rw[zml _ _ _ _ _ _ h1];dsimp only;rw[hq,Qbk];dsimp only;rw[ht,Qw (by rw[Qa,Ql,List.length_singleton];omega),zl1]
  ·rw[if_neg hof] at h1 ⊢;rw[znj _ _ _ h1,ih (by omega)];cases hf:zc2 l s k with
   | none=>rfl
   | some j=>
    have hj:=(zi6 l s k j hf).1;dsimp only;cases hqj:l[j]? with
    | none=>rfl
    | some q2=>
     simp only[Option.map_some];rw[ht,List.drop_append_of_le_length (by rw[Ql];omega),zea];simp[amsR]
theorem zui (q:RPt)(z:Nat)(h:WfR q):WfR (zhr q z):=by
 rcases h with h|h|h
 ·exact .inl h
 ·exact .inr (.inl h)
 ·refine .inr (.inr ⟨h.1,h.2.1,?_⟩);show q.left-z=0;omega
theorem zur (q:RPt)(z:Nat)(h:q.what=2)(hs:q.s=[]):amR (zhr q z)=zy0 z (.run q.c q.left q.n q.op q.cl):=by
 unfold amR;have h1:¬(zhr q z).what=1:=by show ¬q.what=1;omega
 rw[if_neg h1];show q.s.map Am.b++_=_;rw[hs];rfl
theorem zeq.ams {l:List RPt}{i:Nat}{ns:List Rn}(h:zeq l i ns)(hi:i<=l.length)(hl:∀p∈l,WfR p):∃res,PA (amsR (l.take i)) (amsR (l.drop i)) res/\ns=ze2 res []:=by
 induction h with
 | done l i h=>
  refine⟨amsR l,?_,zuf l []⟩;rw[Qbj h,Qw h];exact PA.done _
 | step l i ns h hr ih=>
  obtain⟨s,hs⟩:∃s,l[i]?=some s:=⟨l[i],Qg h⟩;have hws:=hl s (List.mem_of_getElem? hs);have hd:l.drop i=s::l.drop (i+1):=by
   rw[Qm h];congr 1
   rw[Qg h] at hs;exact Qy hs
  have ht:amsR (l.take (i+1))=amsR (l.take i)++amR s:=by rw[List.take_add_one,hs,zea];simp[amsR]
  rw[hd,ze4];by_cases hc:s.what=2/\s.cl=true/\0<s.left
  ·have hs0:s.s=[]:=by
    rcases hws with h|h|h
    ·exact h.2
    ·omega
    ·exact absurd hc.1 h.2.1
   have bg:amR s=[.run s.c s.left s.n s.op true]:=by
    unfold amR;rw[if_neg (by omega),hs0,hc.2.1,zl0 _ _ _ _ _ hc.2.2 (.inr rfl)];rfl
   have hL:=zva l s hl hc.2.1 i hi;cases hf:zc2 l s i with
   | none=>
    have hp:zeu l i=(l,i+1):=zgc l i s hs (by rw[if_pos hc];exact hf);rw[hp] at ih;obtain⟨res,h1,h2⟩:=ih h hl;rw[hf] at hL;refine⟨res,?_,h2⟩;rw[bg];refine PA.pass _ _ _ _ (.inr hL) ?_;rw[<-bg,<-ht];exact h1
   | some j=>
    obtain⟨hji,q,hq,hop⟩:=zi6 l s i j hf;have hp:zeu l i=(zmr l j i q s,j+2):=zj9 l i j s q hs (by rw[if_pos hc];exact hf) hq;rw[hp] at ih;rw[hf] at hL;dsimp only at hL;rw[hq] at hL;dsimp only at hL;have hwq:=hl q (List.mem_of_getElem? hq);unfold zei at hop;simp only[Bool.and_eq_true,decide_eq_true_iff] at hop;have hq0:q.s=[]:=by
     rcases hwq with h|h|h
     ·exact h.2
     ·omega
     ·exact absurd hop.1.1.1.1 h.2.1
    have hlj:(l.take j).length=j:=(by rw[Ql];omega);obtain⟨res,h1,h2⟩:=ih (by
     unfold zmr;rw[Qa,hlj];simp only[Qd];omega) (by
     intro p hp;unfold zmr at hp;rw[Qbh,List.mem_cons,List.mem_cons,List.mem_cons] at hp;rcases hp with hp|hp|hp|hp|hp
     ·exact hl p (List.mem_of_mem_take hp)
     ·rw[hp];exact zui q _ hwq
     ·rw[hp];exact .inr (.inl rfl)
     ·rw[hp];exact zui s _ hws
     ·exact hl p (List.mem_of_mem_drop hp))
    refine⟨res,?_,h2⟩;rw[bg];refine PA.pair _ _ _ _ _ _ _ rfl hL ?_;have hz:zA (.run q.c q.left q.n q.op q.cl) (.run s.c s.left s.n s.op true)=zfl q s:=by
     unfold zA zfl z2u;dsimp only;by_cases h2:2<=s.left/\2<=q.left
     ·rw[if_pos h2,if_pos (by omega)]
     ·rw[if_neg h2,if_neg (by omega)]
    rw[hz];have e1:(zmr l j i q s).take (j+2)=l.take j++[zhr q (zfl q s),zd6 (zk7 (zfl q s) ((l.take i).drop (j+1)))]:=by
     unfold zmr;rw[List.take_append,hlj,Qbj (by omega),show j+2-j=2 from by omega];rfl
    have e2:(zmr l j i q s).drop (j+2)=zhr s (zfl q s)::l.drop (i+1):=by
     unfold zmr;rw[List.drop_append,hlj,Qw (by omega),show j+2-j=2 from by omega];rfl
    rw[e1,e2,zea,ze4,ze4,zl1,ze4,zur q _ hop.1.1.1.1 hq0,zur s _ hc.1 hs0] at h1;have e3:amR (zd6 (zk7 (zfl q s) ((l.take i).drop (j+1))))=[zwr (zfl q s) (amsR ((l.take i).drop (j+1)))]:=by
     unfold amR;rw[if_pos (show (zd6 (zk7 (zfl q s) ((l.take i).drop (j+1)))).what=1 from rfl)];unfold zd6 zk7 zwr;rw[zuf]
    rw[e3,hc.2.1,Qbk,<-Qp] at h1;exact h1
  ·have hp:zeu l i=(l,i+1):=zgc l i s hs (by rw[if_neg hc]);rw[hp] at ih;obtain⟨res,h1,h2⟩:=ih h hl;refine⟨res,PA.passes _ _ _ _ ?_ (by rw[<-ht];exact h1),h2⟩;intro a ha;unfold amR at ha;split at ha
   ·simp at ha;rw[ha];rfl
   ·rename_i hw1;rw[Qbh] at ha;rcases ha with ha|ha
    ·exact zki _ a ha
    ·rcases hws with h|h|h
     ·cases hcl:s.cl with
      | false=>rw[hcl] at ha;exact zld _ _ _ _ a ha
      | true=>
       have h0:s.left=0:=by
        rcases Nat.eq_zero_or_pos s.left with h0|h0
        ·exact h0
        ·exact absurd ⟨h.1,hcl,h0⟩ hc
       rw[h0,zfz] at ha;simp at ha
     ·exact absurd h hw1
     ·rw[h.2.2,zfz] at ha;simp at ha
theorem zl9 (p:Pt)(h:WfP p)(ho:p.ro=true\/p.rc=true)(ht:p.text≠[]):amP p=[.run (p.text.headD 0) p.text.length p.rs p.ro p.rc]:=by
 have h8:p.kind=8:=by
  rcases h with h|h
  ·exact h.1
  ·rcases ho with ho|ho
   ·rw[h.2.1] at ho;cases ho
   ·rw[h.2.2] at ho;cases ho
 unfold amP;rw[if_pos h8,if_neg,zl0 _ _ _ _ _ (Qbf.2 ht) ho];rintro⟨h1,h2⟩;rcases ho with ho|ho
 ·rw[h1] at ho;cases ho
 ·rw[h2] at ho;cases ho
theorem zxp (s q:Pt)(hq:WfP q)(ht:s.text≠[]):zfx (.run (s.text.headD 0) s.text.length s.rs s.ro s.rc) (amP q)=if opens s q=true then some ([],.run (q.text.headD 0) q.text.length q.rs q.ro q.rc,[]) else none:=by
 have hhd:∀u v:List UInt8,u≠[]->v≠[]->(u.headD 0=v.headD 0↔u.head?=v.head?):=by
  intro u v hu hv;cases u with
  | nil=>exact absurd rfl hu
  | cons a u=>
   cases v with
   | nil=>exact absurd rfl hv
   | cons b v=>simp
 by_cases hof:opens s q=true
 ·rw[if_pos hof];unfold opens at hof;simp only[Bool.and_eq_true,decide_eq_true_iff,Bool.not_eq_true',List.isEmpty_eq_false_iff] at hof;obtain⟨h1,h2,h3,h4⟩:=hof;rw[zl9 q hq (.inl h1) h2];have ho2:znu (.run (s.text.headD 0) s.text.length s.rs s.ro s.rc) (.run (q.text.headD 0) q.text.length q.rs q.ro q.rc)=true:=by
   show (q.ro&&(decide (q.text.headD 0=s.text.headD 0)&&S.fits q.rs q.rc s.rs s.ro))=true;rw[h1,h4,decide_eq_true ((hhd _ _ h2 ht).2 h3)];rfl
  simp only[zfx];rw[if_pos ho2]
 ·rw[if_neg hof];refine zo1 _ _ (λx hx=>?_);by_cases hro:q.ro=true/\q.text≠[]
  ·rw[zl9 q hq (.inl hro.1) hro.2] at hx;rw[Qbi] at hx;rw[hx];show (q.ro&&(decide (q.text.headD 0=s.text.headD 0)&&S.fits q.rs q.rc s.rs s.ro))=false;unfold opens at hof;rw[hro.1] at hof ⊢;have he:q.text.isEmpty=false:=by rw[List.isEmpty_eq_false_iff];exact hro.2
   rw[he] at hof;have hd:decide (q.text.headD 0=s.text.headD 0)=decide (q.text.head?=s.text.head?):=decide_eq_decide.2 (hhd _ _ hro.2 ht);rw[hd];simpa using hof
  ·unfold amP at hx;split at hx
   ·split at hx
    ·rw[List.mem_map] at hx;obtain⟨c,_,rfl⟩:=hx;exact zp6 _ _
    ·unfold runA at hx;split at hx
     ·simp at hx
     ·rename_i hl;rw[Qbi] at hx;rw[hx];show (q.ro&&_)=false;cases hq1:q.ro with
      | false=>rfl
      | true=>exact absurd ⟨hq1,λe=>hl (by rw[e];rfl)⟩ hro
   ·simp at hx;rw[hx];exact zrf _ _
theorem z3v (s:Pt)(ht:s.text≠[])(L:List Pt)(hL:WfPs L):zfx (.run (s.text.headD 0) s.text.length s.rs s.ro s.rc) (amsP L)=(zem s L).map (λv=>(amsP v.1,.run (v.2.1.text.headD 0) v.2.1.text.length v.2.1.rs v.2.1.ro v.2.1.rc,amsP v.2.2)):=by
 induction L with
 | nil=>rfl
 | cons p r ih=>
  have hr:WfPs r:=λx hx=>hL x (Qo _ hx);have h1:=zxp s p (hL p (Qx ..)) ht;rw[ze0];simp only[zem];cases hv:zem s r with
  | some v=>
   obtain⟨l1,x,m⟩:=v;rw[hv] at ih;simp only[Option.map_some] at ih ⊢;rw[zml _ _ _ _ _ _ (ih hr),ze0]
  | none=>
   rw[hv] at ih;simp only[Option.map_none] at ih;rw[znj _ _ _ (ih hr),h1];dsimp only;split<;>simp[zv2]
theorem zsk {s x:Pt}(h:opens s x=true):x.ro=true/\x.text≠[]:=by
 unfold opens at h;simp only[Bool.and_eq_true,Bool.not_eq_true',List.isEmpty_eq_false_iff] at h;exact⟨h.1,h.2.1⟩
theorem zry (s:Pt)(L l1 m:List Pt)(x:Pt)(h:zem s L=some (l1,x,m)):opens s x=true:=by
 induction L generalizing l1 with
 | nil=>simp[zem] at h
 | cons p r ih=>
  simp only[zem] at h;cases hv:zem s r with
  | some v=>
   obtain⟨a,y,b⟩:=v;rw[hv] at h;simp at h;obtain⟨_,rfl,rfl⟩:=h;exact ih a hv
  | none=>
   rw[hv] at h;dsimp only at h;split at h
   ·rename_i ho;simp at h;obtain⟨_,rfl,_⟩:=h;exact ho
   ·cases h
theorem zis (p:Pt)(z:Nat)(h:WfP p):WfP (p.za4 (p.text.drop z)):=by
 rcases h with ⟨h1,h2,h3,h4⟩|h
 ·refine .inl ⟨h1,h2,h3,?_⟩;rcases h4 with h4|⟨c,h4⟩
  ·exact .inl h4
  ·refine .inr ⟨c,?_⟩;show p.text.drop z=List.replicate (p.text.drop z).length c;rw[h4];simp
 ·exact .inr h
theorem zoo (p:Pt)(z:Nat)(h:WfP p)(ho:p.ro=true\/p.rc=true):amP (p.za4 (p.text.drop z))=zy0 z (.run (p.text.headD 0) p.text.length p.rs p.ro p.rc):=by
 have hw:=zis p z h;have ho2:(p.za4 (p.text.drop z)).ro=true\/(p.za4 (p.text.drop z)).rc=true:=ho;have hlen:(p.text.drop z).length=p.text.length-z:=Qf ..;show _=runA _ (p.text.length-z) _ _ _;by_cases he:p.text.drop z=[]
 ·have h0:p.text.length-z=0:=by rw[<-hlen,he];rfl
  rw[h0,zfz];rcases hw with ⟨h8,_,_,_⟩|hn
  ·unfold amP;rw[if_pos h8];have ht:(p.za4 (p.text.drop z)).text=[]:=he;rw[ht];split
   ·rfl
   ·exact zfz _ _ _ _
  ·rcases ho2 with ho2|ho2
   ·rw[hn.2.1] at ho2;cases ho2
   ·rw[hn.2.2] at ho2;cases ho2
 ·rw[zl9 _ hw ho2 he,zl0 _ _ _ _ _ (by rw[<-hlen];exact Qbf.2 he) ho];show [Am.run ((p.text.drop z).headD 0) (p.text.drop z).length p.rs p.ro p.rc]=_;rw[hlen];have hc:(p.text.drop z).headD 0=p.text.headD 0:=by
   rcases h with ⟨_,_,_,h4⟩|hn
   ·rcases h4 with h4|⟨c,h4⟩
    ·rcases ho with ho|ho
     ·rw[h4.1] at ho;cases ho
     ·rw[h4.2] at ho;cases ho
    ·have hg:∀u:List UInt8,u≠[]->(∀y∈u,y=c)->u.headD 0=c:=by
      intro u hu hy;cases u with
      | nil=>exact absurd rfl hu
      | cons a u=>exact hy a (Qx ..)
     have hall:∀y∈p.text,y=c:=by
      intro y hy;rw[h4] at hy;exact(List.mem_replicate.1 hy).2
     rw[hg _ he (λy hy=>hall y (List.mem_of_mem_drop hy)),hg _ (λe=>he (by rw[e];simp)) hall]
   ·rcases ho with ho|ho
    ·rw[hn.2.1] at ho;cases ho
    ·rw[hn.2.2] at ho;cases ho
  rw[hc]
theorem zux (z:Nat)(m:List Pt):WfP (zhs z m):=by
 refine .inr ⟨?_,rfl,rfl⟩;show ¬(if z=2 then (15:Int) else 14)=8
 split<;>decide
theorem zzy (z:Nat)(m:List Pt)(h:WfPs m):amP (zhs z m)=[zwr z (amsP m)]:=by
 unfold amP;rw[if_neg (by show ¬(if z=2 then (15:Int) else 14)=8;split<;>decide)]
 unfold zwr;rw[zt4];show [Am.nd (.nd (if z=2 then 15 else 14) 0 [] [] 0 (zda (zfv m)))]=_
 rw[zy4 m h]
theorem zzi (f:Nat)(L:List Pt)(s:Pt)(r res:List Am)(hf:s.text.length<=f)(hL:WfPs L)(hs:WfP s)(h:PA (amsP ((zci f L s).1++[(zci f L s).2])) r res):PA (amsP L) (amP s++r) res:=by
 have bg:(¬(s.rc=true/\s.text≠[]))->PA (amsP (L++[s])) r res->PA (amsP L) (amP s++r) res:=by
  intro hn hp;rw[zec,zge] at hp;refine PA.passes _ _ _ _ (λa ha=>?_) hp;unfold amP at ha;split at ha
  ·split at ha
   ·exact zki _ a ha
   ·cases hrc:s.rc with
    | false=>rw[hrc] at ha;exact zld _ _ _ _ a ha
    | true=>
     have h0:s.text=[]:=Classical.byContradiction (λe=>hn ⟨hrc,e⟩);rw[h0] at ha;simp[runA] at ha
  ·simp at ha;rw[ha];rfl
 induction f generalizing L s with
 | zero=>
  have h0:s.text=[]:=Qbg.1 (by omega);exact bg (λe=>e.2 h0) h
 | succ f ih=>
  by_cases hc:s.rc=true/\s.text≠[]
  ·have dh:=zl9 s hs (.inr hc.1) hc.2;have hlast:=z3v s hc.2 L hL;cases hv:zem s L with
   | none=>
    rw[zgg _ _ _ hv] at h;rw[hv] at hlast;rw[dh];refine PA.pass _ _ _ _ (.inr hlast) ?_;rw[zec,zge,dh] at h;exact h
   | some v=>
    obtain⟨l1,x,m⟩:=v;rw[zgj f L l1 m s x hc.1 hc.2 hv] at h;rw[hv] at hlast;simp only[Option.map_some] at hlast;obtain⟨hcut,_⟩:=zjh s L l1 x m hv;have hop:=zsk (zry s L l1 m x hv);have hx:WfP x:=hL x (by rw[hcut];simp);have hm:WfPs m:=λy hy=>hL y (by rw[hcut];simp[hy]);have hl1:WfPs l1:=λy hy=>hL y (by rw[hcut];simp[hy]);have hz:zA (.run (x.text.headD 0) x.text.length x.rs x.ro x.rc) (.run (s.text.headD 0) s.text.length s.rs s.ro s.rc)=zch x s:=rfl;have hz1:1<=zch x s:=(by unfold zch;split<;>omega);have hL2:WfPs (l1++[x.za4 (x.text.drop (zch x s)),zhs (zch x s) m]):=by
     intro y hy;rw[Qbh,List.mem_cons,Qbi] at hy;rcases hy with hy|hy|hy
     ·exact hl1 y hy
     ·rw[hy];exact zis x _ hx
     ·rw[hy];exact zux _ _
    have hs2:=zis s (zch x s) hs;have hpos:=Qbf.2 hc.2;have:=ih _ _ (by show (s.text.drop _).length<=f;rw[Qf];omega) hL2 hs2 h (by
     intro hn hp;rw[zec,zge] at hp;refine PA.passes _ _ _ _ (λa ha=>?_) hp;rw[zoo s _ hs (.inr hc.1)] at ha;by_cases h0:s.text.drop (zch x s)=[]
     ·have h00:s.text.length-zch x s=0:=(by rw[<-Qf,h0];rfl);unfold zy0 at ha;dsimp only at ha;rw[h00,zfz] at ha;simp at ha
     ·exact absurd ⟨hc.1,h0⟩ hn)
    rw[dh];refine PA.pair _ _ _ _ _ _ _ (by show s.rc=true;exact hc.1) hlast ?_;rw[hz];rw[zec,ze0,zge,zoo x _ hx (.inl hop.1),zzy _ _ hm,zoo s _ hs (.inr hc.1),<-Qp] at this;exact this
  ·rw[zdp _ _ _ hc] at h;exact bg hc h
theorem z1i (f:Nat)(L:List Pt)(s:Pt)(hL:WfPs L)(hs:WfP s):WfPs ((zci f L s).1++[(zci f L s).2]):=by
 have hone:∀(L:List Pt) (s:Pt),WfPs L->WfP s->WfPs (L++[s]):=by
  intro L s h1 h2 y hy;rw[Qbh,Qbi] at hy;rcases hy with hy|hy
  ·exact h1 y hy
  ·rw[hy];exact h2
 induction f generalizing L s with
 | zero=>exact hone L s hL hs
 | succ f ih=>
  simp only[zci];split
  ·cases hv:zem s L with
   | none=>exact hone L s hL hs
   | some v=>
    obtain⟨l1,x,m⟩:=v;dsimp only;obtain⟨hcut,_⟩:=zjh s L l1 x m hv;refine ih _ _ ?_ (zis s _ hs);intro y hy;rw[Qbh,List.mem_cons,Qbi] at hy;rcases hy with hy|hy|hy
    ·exact hL y (by rw[hcut];simp[hy])
    ·rw[hy];exact zis x _ (hL x (by rw[hcut];simp))
    ·rw[hy];exact zux _ _
  ·exact hone L s hL hs
theorem z2t (L r:List Pt)(hL:WfPs L)(hr:WfPs r):PA (amsP L) (amsP r) (amsP (zj0 L r))/\WfPs (zj0 L r):=by
 induction r generalizing L with
 | nil=>exact⟨PA.done _,hL⟩
 | cons s r ih=>
  have hs:=hr s (Qx ..);have hr2:WfPs r:=λx hx=>hr x (Qo _ hx);have h2:=ih ((zci s.text.length L s).1++[(zci s.text.length L s).2]) (z1i _ L s hL hs) hr2;simp only[zj0];rw[ze0];exact⟨zzi _ L s _ _ (Qc _) hL hs h2.1,h2.2⟩
theorem zmm (l:List RPt)(ps:List Pt)(ns:List Rn)(h:amsR l=amsP ps)(hl:∀p∈l,WfR p)(hp:WfPs ps)(hns:zeq l 0 ns):ns=zda (zdi ps):=by
 obtain⟨res,h1,h2⟩:=hns.ams (Qt _) hl;have h3:=z2t [] ps (λx hx=>by simp at hx) hp;rw[List.take_zero,List.drop_zero,h] at h1;have:=h1.det h3.1;rw[h2,this];unfold zdi pairT;rw[zy4 _ h3.2]
theorem zoy (l:List UInt8)(h:10 ∉ l):spc l=l:=by
 unfold spc;induction l with
 | nil=>rfl
 | cons b r ih=>
  have hb:b≠10:=λe=>h (by rw[e];exact Qx ..);rw[Qs,if_neg hb,ih (λe=>h (Qo _ e))]
theorem zqx (k:Nat)(l:List UInt8)(h:l.count 10<=k):Lib.replaceK [10] [32] k l=spc l:=by
 induction k generalizing l with
 | zero=>exact(zoy l (List.count_eq_zero.1 (by omega))).symm
 | succ k ih=>
  unfold Lib.replaceK;have hge:=Lib.indexByte_ge l 10;rw[Lib.index_one];split
  ·rename_i h1;have h1:Lib.indexByte l 10 = -1:=by simpa using h1
   refine(zoy l ?_).symm;intro hm;obtain⟨o,ho⟩:=List.mem_iff_getElem?.1 hm;exact absurd ho (Lib.indexByte_none h1 o)
  ·rename_i h1;have hne:¬Lib.indexByte l 10 = -1:=by simpa using h1
   obtain⟨o,ho⟩:∃o:Nat,Lib.indexByte l 10=o:=⟨(Lib.indexByte l 10).toNat,by omega⟩;have hs:=Lib.indexByte_some ho;have hlt:=(Qb.1 hs.1).1;have bg:l=l.take o++10::l.drop (o+1):=by
    conv=>lhs;rw[<-List.take_append_drop o l]
    rw[Qm hlt];have:=hs.1;rw[Qg hlt] at this;rw[Qy this]
   have hno:10 ∉ l.take o:=by
    intro hm;obtain⟨j,hj⟩:=List.mem_iff_getElem?.1 hm;have hjl:=(Qb.1 hj).1;rw[Ql] at hjl;rw[Qbe (by omega)] at hj;exact hs.2 j (by omega) hj
   have hc:(l.drop (o+1)).count 10<=k:=by
    rw[bg,List.count_append,List.count_cons_self] at h;omega
   rw[ho];show l.take o++[32]++Lib.replaceK [10] [32] k (l.drop (o+1))=_;rw[ih _ hc];conv=>rhs;rw[bg]
   unfold spc;rw[Qv,Qs,if_pos rfl];have:=zoy _ hno;unfold spc at this;rw[this];simp
theorem ztz (l:List UInt8):Lib.replaceAll l [10] [32]=spc l:=by
 unfold Lib.replaceAll Lib.replace;rw[if_neg (by decide)];refine zqx _ l ?_;unfold Lib.replaceNum;rw[if_pos (.inl (by decide)),Lib.count_one];exact Qc _
theorem zy2 (l:List UInt8)(c:UInt8):Lib.hasSuffix l [c]=true↔l[l.length-1]?=some c:=by
 unfold Lib.hasSuffix;rw[List.isSuffixOf_iff_suffix];constructor
 ·rintro⟨a,rfl⟩;simp
 ·intro h;rcases List.eq_nil_or_concat l with rfl|⟨a,b,rfl⟩
  ·simp at h
  ·simp at h;subst h;exact⟨a,by simp⟩
theorem dropWhile_nil {α:Type}(p : α->Bool)(l:List α)(h:l.dropWhile p=[]):∀x∈l,p x=true:=by
 induction l with
 | nil=>intro x hx;simp at hx
 | cons a r ih=>
  rw[List.dropWhile_cons] at h;split at h
  ·rename_i ha;intro x hx;rcases List.mem_cons.1 hx with hx|hx
   ·rw[hx];exact ha
   ·exact ih h x hx
  ·cases h
theorem znz (l:List UInt8):Lib.trimB l 32=[]↔S.blank l=true:=by
 rw[<-S.zga];unfold S.blank S.indent;rw[decide_eq_true_iff];have hle:=S.zr8 32 l;constructor
 ·intro h;apply Classical.byContradiction
  intro hne;have hlt:S.cnt 32 l<l.length:=by omega
  have he:=zrp 32 l;unfold Lib.trimRightB at h;rw[List.reverse_eq_nil_iff] at h;have:=dropWhile_nil _ _ h l[S.cnt 32 l] (by
   rw[List.mem_reverse,Qm hlt];exact Qx ..)
  rw[Qg hlt] at he;exact he (by rw[beq_iff_eq.1 this])
 ·intro h;rw[h,List.drop_length];rfl
theorem zwe (l:List UInt8):znd l=S.zcf l:=by
 unfold znd S.zcf;rw[ztz];dsimp only;by_cases h:(Lib.hasPrefix (spc l) [32]&&Lib.hasSuffix (spc l) [32])=true/\Lib.trimB (spc l) 32≠[]
 ·rw[if_pos h];have h1:=h.1;rw[Bool.and_eq_true,has1,zy2] at h1;have h2:=zkm h.2 (by have:=h.1;rw[Bool.and_eq_true] at this;exact this.1);rw[if_pos];refine⟨by omega,h1.1,h1.2,?_⟩;cases hb:S.blank (spc l) with
  | false=>rfl
  | true=>exact absurd ((znz _).2 hb) h.2
 ·rw[if_neg h,if_neg];rintro⟨_,h1,h2,h3⟩;refine h ⟨by rw[Bool.and_eq_true,has1,zy2];exact⟨h1,h2⟩,λe=>?_⟩;rw[znz,h3] at e;cases e
def TxtR (l:List RPt)(u:List UInt8):Prop:=(∀p∈l,p.what=0/\p.left=0)/\(l.map RPt.s).flatten=u
theorem TxtR.nil:TxtR [] []:=⟨by simp,rfl⟩
theorem TxtR.append {a b:List RPt}{u v:List UInt8}(ha:TxtR a u)(hb:TxtR b v):TxtR (a++b) (u++v):=by
 refine⟨λp hp=>?_,by rw[Qv,List.flatten_append,ha.2,hb.2]⟩;rw[Qbh] at hp;rcases hp with hp|hp
 ·exact ha.1 p hp
 ·exact hb.1 p hp
theorem TxtR.one (v:List UInt8):TxtR [txtR v] v:=⟨λp hp=>by rw[Qbi] at hp;subst hp;exact⟨rfl,rfl⟩,by simp[txtR]⟩
theorem zu8 (p:RPt)(h:p.what≠1)(hl:p.left=0):amR p=p.s.map Am.b:=by
 unfold amR;rw[if_neg h,hl,zfz,Qbk]
theorem TxtR.ams {l:List RPt}{u:List UInt8}(h:TxtR l u):amsR l=u.map Am.b:=by
 obtain⟨h1,rfl⟩:=h;induction l with
 | nil=>rfl
 | cons p r ih=>
  have hp:=h1 p (Qx ..);rw[ze4,ih (λq hq=>h1 q (Qo _ hq)),zu8 p (by omega) hp.2];simp
theorem zu9 (u:List UInt8):amP (zbk u)=u.map Am.b:=by
 unfold amP;rw[if_pos (show (zbk u).kind=8 from rfl),if_pos (show (zbk u).ro=false/\(zbk u).rc=false from⟨rfl,rfl⟩)];rfl
theorem zup (u:List UInt8):WfP (zbk u):=.inl ⟨rfl,rfl,rfl,.inl ⟨rfl,rfl⟩⟩
def Sg (l:List RPt)(ps:List Pt):Prop:=(∀p∈l,p.what≠3)/\(∀p∈l,WfR p)/\WfPs ps/\amsR l=amsP ps
theorem Sg.nil:Sg [] []:=⟨by simp,by simp,λp hp=>by simp at hp,rfl⟩
theorem Sg.append {a b:List RPt}{x y:List Pt}(h1:Sg a x)(h2:Sg b y):Sg (a++b) (x++y):=by
 refine⟨λp hp=>?_,λp hp=>?_,λp hp=>?_,by rw[zea,zec,h1.2.2.2,h2.2.2.2]⟩
 ·rw[Qbh] at hp;exact hp.elim (h1.1 p) (h2.1 p)
 ·rw[Qbh] at hp;exact hp.elim (h1.2.1 p) (h2.2.1 p)
 ·rw[Qbh] at hp;exact hp.elim (h1.2.2.1 p) (h2.2.2.1 p)
theorem TxtR.wf {l:List RPt}{u:List UInt8}(h:TxtR l u):(∀p∈l,p.what≠3)/\(∀p∈l,WfR p):=
 ⟨λp hp=>by have:=(h.1 p hp).1;omega,λp hp=>.inr (.inr ⟨by have:=(h.1 p hp).1;omega,by have:=(h.1 p hp).1;omega,(h.1 p hp).2⟩)⟩
theorem TxtR.seg {l:List RPt}{u:List UInt8}(h:TxtR l u):Sg l [zbk u]:=
 ⟨h.wf.1,h.wf.2,λp hp=>by rw[Qbi] at hp;subst hp;exact zup u,by rw[h.ams,zge,zu9]⟩
theorem TxtR.skip {l:List RPt}{ct:ByteArray}{f k:Nat}(h:TxtR l ((ct.data.toList.drop f).take (k-f))):Sg l (zd1 ct f k):=by
 unfold zd1;split
 ·exact h.seg
 ·rename_i hf;rw[show k-f=0 from by omega,List.take_zero] at h;exact⟨h.wf.1,h.wf.2,λp hp=>by simp at hp,by rw[h.ams];rfl⟩
theorem Sg.node (n:Rn)(p:Pt)(h8:¬p.kind=8)(hr:p.ro=false/\p.rc=false)(hn:toRn p=n):Sg [zd6 n] [p]:=by
 refine⟨λq hq=>?_,λq hq=>?_,λq hq=>?_,?_⟩
 ·rw[Qbi] at hq;subst hq;simp[zd6]
 ·rw[Qbi] at hq;subst hq;exact .inr (.inl rfl)
 ·rw[Qbi] at hq;subst hq;exact .inr ⟨h8,hr.1,hr.2⟩
 ·rw[zge,ze4,zl1,Qbk];unfold amR amP;rw[if_pos (show (zd6 n).what=1 from rfl),if_neg h8,hn];rfl
inductive Br:List RPt->List Pt->List Opn->Prop
 | base (l:List RPt) (ps:List Pt) (h:Sg l ps):Br l ps []
 | opn (l:List RPt) (ps:List Pt) (os:List Opn) (q:RPt) (l2:List RPt) (ps2:List Pt) (h:Br l ps os) (hq:q.what=3/\q.left=0) (h2:Sg l2 ps2):Br (l++q::l2) (ps++zbk q.s::ps2) (os++[⟨ps.length,q.im,q.dead⟩])
theorem Br.ext {l:List RPt}{ps:List Pt}{os:List Opn}(h:Br l ps os){l2:List RPt}{ps2:List Pt}(hs:Sg l2 ps2):Br (l++l2) (ps++ps2) os:=by
 cases h with
 | base _ _ h=>exact .base _ _ (h.append hs)
 | opn a x os q b y h hq h2=>
  rw[Qp,Qp,List.cons_append,List.cons_append];exact .opn a x os q _ _ h hq (h2.append hs)
theorem Br.all {l:List RPt}{ps:List Pt}{os:List Opn}(h:Br l ps os):(∀p∈l,WfR p)/\WfPs ps/\amsR l=amsP ps:=by
 induction h with
 | base l ps h=>exact h.2
 | opn a x os q b y h hq h2 ih=>
  refine⟨λp hp=>?_,λp hp=>?_,?_⟩
  ·rw[Qbh,List.mem_cons] at hp;rcases hp with hp|hp|hp
   ·exact ih.1 p hp
   ·rw[hp];exact .inr (.inr ⟨by omega,by omega,hq.2⟩)
   ·exact h2.2.1 p hp
  ·rw[Qbh,List.mem_cons] at hp;rcases hp with hp|hp|hp
   ·exact ih.2.1 p hp
   ·rw[hp];exact zup _
   ·exact h2.2.2.1 p hp
  ·rw[zea,ze4,zec,ze0,ih.2.2,h2.2.2.2,zu9,zu8 q (by omega) hq.2]
theorem zro (x:RPt):zbx true x=x:=by
 unfold zbx;rw[if_neg];rintro⟨_,h,_⟩;cases h
theorem znf (l:List RPt)(h:∀p∈l,p.what≠3)(im:Bool):l.map (zbx im)=l:=by
 induction l with
 | nil=>rfl
 | cons p r ih=>
  rw[Qs,ih (λq hq=>h q (Qo _ hq))];unfold zbx;rw[if_neg];rintro⟨h1,_⟩;exact h p (Qx ..) h1
theorem Br.kill {l:List RPt}{ps:List Pt}{os:List Opn}(h:Br l ps os):Br (l.map (zbx false)) ps (os.map Opn.kill):=by
 induction h with
 | base l ps h=>rw[znf l h.1];exact .base _ _ h
 | opn a x os q b y h hq h2 ih=>
  rw[Qv,Qs,znf b h2.1,Qv];have hs:(zbx false q).s=q.s:=by unfold zbx;split<;>rfl
  have him:(zbx false q).im=q.im:=by unfold zbx;split<;>rfl
  have hw:(zbx false q).what=3/\(zbx false q).left=0:=by unfold zbx;split<;>exact hq
  have hd:(zbx false q).dead=(q.dead||!q.im):=by
   unfold zbx;cases hi:q.im with
   | false=>rw[if_pos ⟨hq.1,rfl,rfl⟩];simp
   | true=>
    rw[if_neg (by rintro⟨_,_,h⟩;cases h)];simp
  have:=Br.opn _ _ _ (zbx false q) b y ih hw h2;rw[hs,him,hd] at this;exact this
theorem Br.last {l:List RPt}{ps:List Pt}{os:List Opn}{o:Opn}(h:Br l ps (os++[o])):∃a q b x y,l=a++q::b/\ps=x++zbk q.s::y/\o=⟨x.length,q.im,q.dead⟩/\Br a x os/\Sg b y/\q.what=3/\q.left=0:=by
 generalize he:os++[o]=os2 at h;cases h with
 | base _ _ h=>simp at he
 | opn a x os3 q b y h hq h2=>
  obtain⟨h3,h4⟩:=List.append_inj' he rfl;subst h3;simp at h4;exact⟨a,q,b,x,y,rfl,rfl,h4,h,h2,hq.1,hq.2⟩
theorem Br.none {l:List RPt}{ps:List Pt}(h:Br l ps []):Sg l ps:=by
 generalize he:([]:List Opn)=os at h;cases h with
 | base _ _ h=>exact h
 | opn a x os3 q b y h hq h2=>simp at he
theorem zoi (a b:List RPt)(q:RPt)(hq:q.what=3)(hb:∀p∈b,p.what≠3)(n:Nat)(hn:n<=b.length):zbt (a++q::b) (a.length+1+n)=some a.length:=by
 induction n with
 | zero=>
  rw[Nat.add_zero];simp only[zbt];rw[Qu (Qc _),Nat.sub_self];simp[hq]
 | succ n ih=>
  rw[<-Nat.add_assoc];simp only[zbt];rw[Qu (by omega),show a.length+1+n-a.length=n+1 from by omega,List.getElem?_cons_succ];cases hx:b[n]? with
  | none=>exact ih (by omega)
  | some p=>
   dsimp only;rw[if_neg (hb p (List.mem_of_getElem? hx))];exact ih (by omega)
theorem zp5 (l:List RPt)(h:∀p∈l,p.what≠3)(n:Nat):zbt l n=none:=by
 induction n with
 | zero=>rfl
 | succ n ih=>
  simp only[zbt];cases hx:l[n]? with
  | none=>exact ih
  | some p=>
   dsimp only;rw[if_neg (h p (List.mem_of_getElem? hx))];exact ih
structure Sim (ct:ByteArray)(l:List RPt)(s:St):Prop where
 fk:s.f<=s.k
 kl:s.k<=ct.size
 rel:∃l1 l2,l=l1++l2/\Br l1 s.ps s.os/\TxtR l2 ((ct.data.toList.drop s.f).take (s.k-s.f))
 sp:spB ct.data.toList s.k=0\/(ct.data.toList[s.k]?≠some 32/\ct.data.toList[s.k]?≠some 10)
theorem Sim.flush {ct:ByteArray}{l:List RPt}{s:St}(h:Sim ct l s):Br l (s.ps++zd1 ct s.f s.k) s.os:=by
 obtain⟨l1,l2,rfl,h1,h2⟩:=h.rel;exact h1.ext h2.skip
theorem Sim.lay {ct:ByteArray}{l:List RPt}{s:St}(h:Sim ct l s){p:Pt}{q:RPt}(n:Nat)(hs:Sg [q] [p])(hn:s.k+n<=ct.size)(hsp:spB ct.data.toList (s.k+n)=0):Sim ct (l++[q]) (s.lay ct p n):=
 ⟨Qc _,hn,⟨l++[q],[],by simp,h.flush.ext hs,by
  show TxtR [] ((ct.data.toList.drop (s.k+n)).take (s.k+n-(s.k+n)));rw[Nat.sub_self];exact TxtR.nil⟩,.inl hsp⟩
theorem Sim.text {ct:ByteArray}{l:List RPt}{s:St}(h:Sim ct l s){g:List RPt}(n:Nat)(hg:TxtR g ((ct.data.toList.drop s.k).take n))(hn:s.k+n<=ct.size)(hsp:spB ct.data.toList (s.k+n)=0\/(ct.data.toList[s.k+n]?≠some 32/\ct.data.toList[s.k+n]?≠some 10)):Sim ct (l++g) (s.text n):=by
 obtain⟨l1,l2,rfl,h1,h2⟩:=h.rel;have bg:=h.fk;refine⟨by show s.f<=s.k+n;omega,hn,⟨l1,l2++g,by simp,h1,?_⟩,hsp⟩;show TxtR (l2++g) ((ct.data.toList.drop s.f).take (s.k+n-s.f));have he:(ct.data.toList.drop s.f).take (s.k+n-s.f)=(ct.data.toList.drop s.f).take (s.k-s.f)++(ct.data.toList.drop s.k).take n:=by
  rw[show s.k+n-s.f=(s.k-s.f)+n from by omega,List.take_add,Qbb,show s.f+(s.k-s.f)=s.k from by omega]
 rw[he];exact h2.append hg
theorem Sim.text1 {ct:ByteArray}{l:List RPt}{s:St}(h:Sim ct l s)(b:UInt8)(hb:ct.data.toList[s.k]?=some b)(h32:b≠32):Sim ct (l++[txtR ((ct.data.toList.drop s.k).take 1)]) (s.text 1):=by
 have hlt:=(Qb.1 hb).1;rw[S.lda] at hlt;exact h.text 1 (TxtR.one _) (by omega) (.inl (ze5 _ _ b hb h32))
theorem zh6 {t:List UInt8}{l l':List RPt}{i i':Nat}{b:UInt8}(hb:t[i]?=some b)(h:zgu t l i l' i')(h92:¬(b=92/\t[i+1]?=some 10))(h92':¬(b=92/\(t[i+1]?.map S.mark)=some true))(h96:b≠96)(h60:¬(b=60/\0<ang t i))(h10:b≠10)(hr:¬(b=42\/b=95))(h91:b≠91)(h33:¬(b=33/\t[i+1]?=some 91))(h93:b≠93):l'=l++[txtR ((t.drop i).take 1)]/\i'=i+1:=by
 obtain⟨c,hc,h⟩:=h;rw[hb] at hc;have:=Qy hc;subst this;rw[if_neg h92,if_neg h92',if_neg h96,if_neg h60,if_neg h10,if_neg hr,if_neg h91,if_neg h33,if_neg h93] at h;exact h
theorem WTo.next {t:List UInt8}{l:List RPt}{i:Nat}{ns:List Rn}(h:WTo t l i ns)(hi:i<t.length):∃l' i',zgu t l i l' i'/\WTo t l' i' ns:=by
 cases h with
 | done _ _ _ h _=>omega
 | step _ _ l' i' _ hs hr=>exact⟨l',i',hs,hr⟩
theorem zp8 (t:List UInt8)(i:Nat)(c:UInt8):Lib.hasPrefix (t.drop i) [c]=true↔t[i]?=some c:=by rw[has1,Qn,Nat.add_zero]
theorem zv1 (t:List UInt8)(i:Nat)(c d:UInt8):Lib.hasPrefix (t.drop i) [c,d]=true↔t[i]?=some c/\t[i+1]?=some d:=by
 have h0:(t.drop i)[0]?=t[i]?:=by rw[Qn,Nat.add_zero]
 have h1:(t.drop i)[1]?=t[i+1]?:=Qn ..;rw[<-h0,<-h1];cases hx:t.drop i with
 | nil=>simp[Lib.hasPrefix]
 | cons a r=>
  cases r with
  | nil=>simp[Lib.hasPrefix,List.isPrefixOf]
  | cons b r=>
   simp only[Lib.hasPrefix,List.isPrefixOf,Bool.and_true,Bool.and_eq_true,beq_iff_eq,List.getElem?_cons_zero,List.getElem?_cons_succ,Option.some.injEq];exact⟨λh=>⟨h.1.symm,h.2.symm⟩,λh=>⟨h.1.symm,h.2.symm⟩⟩
theorem zxn (t:List UInt8)(l:List RPt)(i n:Nat)(ns:List Rn)(hall:∀j,j<n->t[i+j]?=some 32)(h:WTo t l i ns):WTo t (l++List.replicate n (txtR [32])) (i+n) ns:=by
 induction n generalizing l i with
 | zero=>simpa using h
 | succ n ih=>
  have h0:=hall 0 (by omega);rw[Nat.add_zero] at h0;have hlt:=(Qb.1 h0).1;obtain⟨l',i',hs,hr⟩:=h.next hlt;have hst:=zh6 h0 hs (by rintro⟨h,_⟩;revert h;decide) (by rintro⟨h,_⟩;revert h;decide) (by decide) (by rintro⟨h,_⟩;revert h;decide) (by decide) (by decide) (by decide) (by rintro⟨h,_⟩;revert h;decide) (by decide);have h1:(t.drop i).take 1=[32]:=by
   rw[Qm hlt];rw[Qg hlt] at h0;rw[Qy h0];rfl
  rw[hst.1,hst.2,h1] at hr;have:=ih (l++[txtR [32]]) (i+1) (λj hj=>by have:=hall (j+1) (by omega);rwa [show i+(j+1)=i+1+j from by omega] at this) hr;rw[Qp,List.singleton_append,<-List.replicate_succ,show i+1+n=i+(n+1) from by omega] at this;exact this
theorem zw0 (n:Nat):TxtR (List.replicate n (txtR [32])) (List.replicate n 32):=by
 induction n with
 | zero=>exact TxtR.nil
 | succ n ih=>rw[List.replicate_succ,List.replicate_succ];exact(TxtR.one [32]).append ih
theorem z3h (t:List UInt8)(i n:Nat)(hall:∀j,j<n->t[i+j]?=some 32):spB t (i+n)=spB t i+n:=by
 induction n with
 | zero=>rfl
 | succ n ih=>
  rw[<-Nat.add_assoc,zpg t (i+n) 32 (hall n (by omega)),if_pos rfl,ih (λj hj=>hall j (by omega))];omega
theorem zp1 (t:List UInt8)(i:Nat)(b:UInt8)(hb:t[i]?=some b):S.same (t.drop i)=S.cnt b (t.drop i)/\1<=S.cnt b (t.drop i)/\i+S.cnt b (t.drop i)<=t.length/\(∀j,j<S.cnt b (t.drop i)->t[i+j]?=some b)/\t[i+S.cnt b (t.drop i)]?≠some b/\(t.drop i).take (S.cnt b (t.drop i))=List.replicate (S.cnt b (t.drop i)) b:=by
 have hlt:=(Qb.1 hb).1;have hd:t.drop i=b::t.drop (i+1):=by
  rw[Qm hlt];rw[Qg hlt] at hb;rw[Qy hb]
 have hle:=S.zr8 b (t.drop i);rw[Qf] at hle;have hall:∀j,j<S.cnt b (t.drop i)->t[i+j]?=some b:=λj hj=>by have:=zmk b _ j hj;rwa [Qn] at this
 refine⟨by rw[hd];rfl,by rw[hd];simp[S.cnt],by omega,hall,by have:=zrp b (t.drop i);rwa [Qn] at this,?_⟩;apply List.ext_getElem?
 intro j;by_cases hj:j<S.cnt b (t.drop i)
 ·rw[Qbe hj,Qn,hall j hj,List.getElem?_replicate,if_pos hj]
 ·rw[Qr (by rw[Ql];omega),Qr (by rw[List.length_replicate];omega)]
theorem zj7 (k:Int)(t:List UInt8)(h:¬k=8):Sg [zh4 k t] [.mk k [] t [] 0 false false]:=Sg.node _ _ h ⟨rfl,rfl⟩ (by simp only[toRn,zda])
theorem Sim.open {ct:ByteArray}{l:List RPt}{s:St}(h:Sim ct l s)(u:List UInt8)(im:Bool)(hn:s.k+u.length<=ct.size)(hsp:spB ct.data.toList (s.k+u.length)=0):Sim ct (l++[zk2 u im]) (s.open ct u im):=
 ⟨Qc _,hn,⟨l++[zk2 u im],[],by simp,Br.opn _ _ _ (zk2 u im) [] [] h.flush ⟨rfl,rfl⟩ Sg.nil,by
  show TxtR [] ((ct.data.toList.drop (s.k+u.length)).take (s.k+u.length-(s.k+u.length)));rw[Nat.sub_self];exact TxtR.nil⟩,.inl hsp⟩
theorem Sim.close {ct:ByteArray}{l l':List RPt}{s:St}{i':Nat}(h:Sim ct l s)(hb:ct.data.toList[s.k]?=some 93)(hc:zdc l ct.data.toList s.k l' i'):Sim ct l' (if (s.close ct).1=true then (s.close ct).2 else (s.close ct).2.text 1)/\i'=(if (s.close ct).1=true then (s.close ct).2 else (s.close ct).2.text 1).k:=by
 have hlt:=(Qb.1 hb).1;rw[S.lda] at hlt;have hpl:=hc.place hb;have jg:(ct.data.toList.drop s.k).take 1=[93]:=by
  have hlt':=(Qb.1 hb).1;rw[Qm hlt'];rw[Qg hlt'] at hb;rw[Qy hb];rfl
 have hsp1:spB ct.data.toList (s.k+1)=0:=ze5 _ _ 93 hb (by decide);obtain⟨l1,l2,hl,hbr,htx⟩:=h.rel;rcases List.eq_nil_or_concat s.os with ho|⟨os,o,ho⟩
 ·have he:s.close ct=(false,s):=by unfold St.close;rw[ho];rfl
  rw[he];simp only[Bool.false_eq_true,if_false];have hseg:=(ho▸hbr).none;have hno:zbt l l.length=none:=zp5 l (by
   rw[hl];intro p hp;rw[Qbh] at hp;exact hp.elim (hseg.1 p) (htx.wf.1 p)) _
  rcases hc with ⟨_,h1,h2⟩|⟨k,q,hk,_⟩|⟨k,q,ns,hk,_⟩
  ·rw[h1,h2,<-jg];exact⟨h.text1 93 hb (by decide),rfl⟩
  ·rw[hno] at hk;cases hk
  ·rw[hno] at hk;cases hk
 ·have ho:s.os=os++[o]:=by simpa using ho
  have hlast:s.os.getLast?=some o:=by rw[ho];simp
  have hdl:s.os.dropLast=os:=by rw[ho];simp
  obtain⟨a,q,b,x,y,hl1,hps,hoe,dw,hseg,hq3,hq0⟩:=(ho▸hbr).last;have hbl:∀p∈b++l2,p.what≠3:=by
   intro p hp;rw[Qbh] at hp;exact hp.elim (hseg.1 p) (htx.wf.1 p)
  have hl3:l=a++q::(b++l2):=by rw[hl,hl1];simp
  have hfo:zbt l l.length=some a.length:=by
   rw[hl3,show (a++q::(b++l2)).length=a.length+1+(b++l2).length from by simp;omega];exact zoi a (b++l2) q hq3 hbl _ (Qc _)
  have hga:l[a.length]?=some q:=by rw[hl3,Qu (Qc _),Nat.sub_self];rfl
  have dh:(o.dead=true\/S.zd5 (ct.data.toList.drop (s.k+1))=false)->s.close ct=(false,⟨s.f,s.k,s.ps,os⟩):=by
   intro hn;unfold St.close;rw[hlast,hdl];dsimp only;rw[if_neg];rintro⟨h1,h2⟩;rcases hn with hn|hn
   ·rw[h1] at hn;cases hn
   ·rw[h2] at hn;cases hn
  rcases hc with ⟨h0,_⟩|⟨k,q',hk,hq',hnl,h1,h2⟩|⟨k,q',ns,hk,hq',hd,gq,hp,h1,h2⟩
  ·rw[hfo] at h0;cases h0
  ·rw[hfo] at hk;have hk:=Qy hk;subst hk;rw[hga] at hq';have:=Qy hq';subst this;have he:=dh (by
    rcases hnl with hnl|hnl
    ·exact .inl (by rw[hoe];exact hnl)
    ·right
     unfold tgt at hnl;cases hok:S.zd5 (ct.data.toList.drop (s.k+1)) with
     | false=>rfl
     | true=>rw[if_pos hok] at hnl;omega)
   rw[he];simp only[Bool.false_eq_true,if_false];refine⟨?_,h2⟩;have hset:l.set a.length { q with what:=0 } = (a ++ { q with what:=0 } :: b)++l2:=by
    rw[hl3];rw[List.set_append_right _ _ (Qc _),Nat.sub_self];simp
   have hq2:Sg ({ q with what:=0 } :: b) (zbk q.s::y):=by
    have h0:Sg [{ q with what:=0 }] [zbk q.s]:=by
     have:TxtR [({ q with what:=0 } : RPt)] q.s:=⟨λp hp=>by rw[Qbi] at hp;subst hp;exact⟨rfl,hq0⟩,by simp⟩
     exact this.seg
    exact h0.append hseg
   have hS:Sim ct (l.set a.length { q with what:=0 }) ⟨s.f,s.k,s.ps,os⟩:=
    ⟨h.fk,h.kl,⟨a ++ { q with what:=0 } :: b,l2,hset,by
     show Br _ s.ps os;rw[hps];exact dw.ext hq2,htx⟩,h.sp⟩
   rw[h1,<-jg];exact hS.text1 93 hb (by decide)
  ·rw[hfo] at hk;have hk:=Qy hk;subst hk;rw[hga] at hq';have:=Qy hq';subst this;have hok:S.zd5 (ct.data.toList.drop (s.k+1))=true:=by
    unfold tgt at gq;cases hok:S.zd5 (ct.data.toList.drop (s.k+1)) with
    | true=>rfl
    | false=>rw[hok] at gq;simp at gq
   have dx:o.dead=false:=by rw[hoe];exact hd
   have hoj:o.j=x.length:=by rw[hoe]
   have hoi:o.image=q.im:=by rw[hoe]
   have jd:(S.addrOf (ct.data.toList.drop (s.k+1))).length=S.zb5 [40,41,60,62] (ct.data.toList.drop (s.k+1+1)):=by
    unfold S.addrOf;rw[Qbb,Ql];have:=S.zic [40,41,60,62] (ct.data.toList.drop (s.k+1+1));omega
   have bg:tgt ct.data.toList (s.k+1)=s.k+(3+(S.addrOf (ct.data.toList.drop (s.k+1))).length):=by
    rw[jd];unfold tgt;rw[if_pos hok];omega
   have fq:(ct.data.toList.take (tgt ct.data.toList (s.k+1)-1)).drop (s.k+2)=S.addrOf (ct.data.toList.drop (s.k+1)):=by
    rw[bg,jd,show s.k+(3+S.zb5 [40,41,60,62] (ct.data.toList.drop (s.k+1+1)))-1=(s.k+2)+S.zb5 [40,41,60,62] (ct.data.toList.drop (s.k+1+1)) from by omega,List.drop_take];unfold S.addrOf;rw[Qbb];congr 1
    omega
   have hclose:s.close ct=(true,⟨s.k+(3+(S.addrOf (ct.data.toList.drop (s.k+1))).length),s.k+(3+(S.addrOf (ct.data.toList.drop (s.k+1))).length),x++[zib (S.addrOf (ct.data.toList.drop (s.k+1))) q.im (y++zd1 ct s.f s.k)],if q.im then os else os.map Opn.kill⟩):=by
    unfold St.close;rw[hlast,hdl];dsimp only;have htk:(x++zbk q.s::y).take x.length=x:=(by rw[Qbc (Qc _),Qbl]);have hdr:(x++zbk q.s::y).drop (x.length+1)=y:=by
     rw[List.drop_append,Qw (by omega),show x.length+1-x.length=1 from by omega];rfl
    rw[if_pos ⟨dx,hok⟩,hoj,hoi,hps,htk,hdr]
   rw[hclose];simp only[if_true];refine⟨?_,by rw[h2,bg]⟩;have hns:ns=zda (zdi (y++zd1 ct s.f s.k)):=by
    have hd2:l.drop (a.length+1)=b++l2:=by
     rw[hl3,List.drop_append,Qw (by omega),show a.length+1-a.length=1 from by omega];rfl
    rw[hd2] at hp;have hsg:=hseg.append htx.skip;exact zmm _ _ _ hsg.2.2.2 hsg.2.1 hsg.2.2.1 hp
   have jh:l.take a.length=a:=by rw[hl3,Qbc (Qc _),Qbl]
   have hcl:Sg [zd6 (.nd (if q.im=true then 13 else 12) 0 (S.addrOf (ct.data.toList.drop (s.k+1))) [] 0 ns)] [zib (S.addrOf (ct.data.toList.drop (s.k+1))) q.im (y++zd1 ct s.f s.k)]:=by
    refine Sg.node _ _ (by show ¬(if q.im=true then (13:Int) else 12)=8;split<;>decide) ⟨rfl,rfl⟩ ?_
    rw[zt4,hns];rfl
   have gy:Br (a.map (zbx q.im)) x (if q.im=true then os else os.map Opn.kill):=by
    cases hi:q.im with
    | true=>
     rw[if_pos rfl];have:a.map (zbx true)=a:=by
      rw[show zbx true=id from funext zro,List.map_id]
     rw[this];exact dw
    | false=>
     simp only[Bool.false_eq_true,if_false];exact dw.kill
   rw[h1,fq,jh];refine⟨Qc _,?_,⟨_,[],(Qbk _).symm,gy.ext hcl,?_⟩,.inl ?_⟩
   ·have:=hpl.2.1;rw[h2,bg,S.lda] at this;exact this
   ·show TxtR [] ((ct.data.toList.drop _).take (_-_));rw[Nat.sub_self];exact TxtR.nil
   ·have:=hpl.2.2;rw[h2,bg] at this;exact this
theorem Sim.step {ct:ByteArray}{l:List RPt}{s:St}{ns:List Rn}(h:Sim ct l s)(hk:s.k<ct.size)(hw:WTo ct.data.toList l s.k ns):∃l',Sim ct l' (step ct s)/\WTo ct.data.toList l' (step ct s).k ns:=by
 obtain⟨t,ht⟩:=Qyy (ct.data.toList);have hlt:s.k<t.length:=by rw[<-ht,S.lda];exact hk
 have hbk:t[s.k]?=some ct[s.k]:=by rw[<-ht];exact S.zad ct s.k hk
 have hsize:ct.size=t.length:=by rw[<-ht,S.lda]
 rw[zep ct s hk];rw[ht] at hw;have dh:=h.sp;rw[ht] at dh;generalize ct[s.k]=b at hbk;obtain⟨l',i',hs,hr⟩:=hw.next hlt;have hs0:=hs;obtain⟨c,hc,hst⟩:=hs;rw[hbk] at hc;have:=Qy hc;subst this;unfold zje;rw[ht];have hnext:s.k+1<=ct.size:=by omega
 have jd:∀(h32:b≠32),Sim ct (l++[txtR ((t.drop s.k).take 1)]) (s.text 1):=λh32=>by
  have:=h.text1 b (by rw[ht];exact hbk) h32;rwa [ht] at this
 have hlast:∀(h32:b≠32),(l'=l++[txtR ((t.drop s.k).take 1)]/\i'=s.k+1)->∃l',Sim ct l' (s.text 1)/\WTo t l' (s.text 1).k ns:=λh32 he=>by
  refine⟨_,jd h32,?_⟩;rw[he.1,he.2] at hr;exact hr
 have hz:∀(n:Nat) (c:UInt8),t[n]?=some c->c≠32->spB ct.data.toList (n+1)=0:=λn c h1 h2=>by rw[ht];exact ze5 t n c h1 h2
 by_cases h92:b=92
 ·subst h92;rw[if_pos rfl];by_cases hn:t[s.k+1]?=some 10
  ·rw[if_pos ((zv1 t s.k 92 10).2 ⟨hbk,hn⟩)];rw[if_pos ⟨rfl,hn⟩] at hst;have hn2:=(Qb.1 hn).1;refine⟨_,h.lay 2 (zj7 10 [] (by decide)) (by omega) (hz _ 10 hn (by decide)),?_⟩;rw[hst.1,hst.2] at hr;exact hr
  ·rw[if_neg (λe=>hn ((zv1 t s.k 92 10).1 e).2)];rw[if_neg (λe=>hn e.2)] at hst;have dx:S.escapes (t.drop s.k)=true↔(t[s.k+1]?.map S.mark)=some true:=by
    unfold S.escapes;rw[Qn];cases t[s.k+1]? with
    | none=>simp
    | some d=>simp
   by_cases he:S.escapes (t.drop s.k)=true
   ·rw[if_pos he];rw[if_pos ⟨rfl,dx.1 he⟩] at hst;obtain⟨d,hd,jl⟩:∃d,t[s.k+1]?=some d/\S.mark d=true:=by
     have:=dx.1 he;cases hx:t[s.k+1]? with
     | none=>rw[hx] at this;simp at this
     | some d=>rw[hx] at this;exact⟨d,rfl,by simpa using this⟩
    have hd2:=(Qb.1 hd).1;have hd32:d≠32:=λe=>by rw[e] at jl;revert jl;decide
    refine⟨l++[txtR ((t.drop (s.k+1)).take 1)],?_,?_⟩
    ·have hS:Sim ct l (s.skip ct 1):=⟨Qc _,by show s.k+1<=_;omega,⟨l,[],by simp,h.flush,by
      show TxtR [] ((ct.data.toList.drop (s.k+1)).take (s.k+1-(s.k+1)));rw[Nat.sub_self];exact TxtR.nil⟩,.inl (hz _ 92 hbk (by decide))⟩
     have:=hS.text1 d (by show ct.data.toList[s.k+1]?=_;rw[ht];exact hd) hd32;rw[ht] at this;exact this
    ·rw[hst.1,hst.2] at hr;exact hr
   ·rw[if_neg he];refine hlast (by decide) (zh6 hbk hs0 (λe=>hn e.2) (λe=>he (dx.2 e.2)) (by decide) (by rintro⟨h,_⟩;revert h;decide) (by decide) (by decide) (by decide) (by rintro⟨h,_⟩;revert h;decide) (by decide))
 rw[if_neg h92];rw[if_neg (λe=>h92 e.1),if_neg (λe=>h92 e.1)] at hst;by_cases h96:b=96
 ·subst h96;rw[if_pos rfl];rw[if_pos rfl] at hst;obtain⟨hsm,hc1,hcl,hall,hend,hrep⟩:=zp1 t s.k 96 hbk;rw[hsm];obtain⟨n,hn⟩:=Qyy (S.cnt 96 (t.drop s.k));rw[hn] at hst hc1 hcl hall hrep ⊢;have hgr:grv t s.k=grvV s.k n (S.ze9 (t.drop s.k) n):=by unfold grv;rw[hn]
  cases hv:S.ze9 (t.drop s.k) n with
  | some v=>
   rw[hv] at hgr;have hgr:grv t s.k=s.k+v+n:=hgr;have hgb:=zpo t s.k (by rw[hn];exact hc1) (by rw[hgr];omega);rw[hn,hgr] at hgb;rw[if_pos (by rw[hgr];omega)] at hst;dsimp only;refine⟨_,h.lay (p:=zh3 ct s.k n v) (v+n) (zj7 11 (S.zcf ((ct.data.toList.drop (s.k+n)).take (v-n))) (by decide)) (by omega) (by
    have:=hz (s.k+v+n-1) 96 hgb.2.2 (by decide);rwa [show s.k+v+n-1+1=s.k+(v+n) from by omega] at this),?_⟩
   rw[hst.1,hst.2,hgr,zwe,show s.k+v+n-n-(s.k+n)=v-n from by omega] at hr;rw[ht];show WTo t _ (s.k+(v+n)) ns;rw[<-Nat.add_assoc];exact hr
  | none=>
   rw[hv] at hgr;have hgr:grv t s.k=0:=hgr;rw[if_neg (by omega)] at hst;dsimp only;refine⟨l++[txtR ((t.drop s.k).take n)],?_,?_⟩
   ·have:=h.text (g:=[txtR ((t.drop s.k).take n)]) n (by rw[ht];exact TxtR.one _) (by omega) (.inl (by
     have:=hz (s.k+(n-1)) 96 (hall _ (by omega)) (by decide);rwa [show s.k+(n-1)+1=s.k+n from by omega] at this))
    exact this
   ·rw[hst.1,hst.2] at hr;exact hr
 rw[if_neg h96];rw[if_neg h96] at hst;by_cases h32:b=32
 ·subst h32;rw[if_pos rfl];obtain⟨hsm,hc1,hcl,hall,hend,hrep⟩:=zp1 t s.k 32 hbk;rw[hsm];obtain⟨n,hn⟩:=Qyy (S.cnt 32 (t.drop s.k));rw[hn] at hc1 hcl hall hend hrep ⊢;have dw:spB t s.k=0:=by
   rcases dh with h1|h1
   ·exact h1
   ·exact absurd hbk h1.1
  have fq:=z3h t s.k n hall;rw[dw,Nat.zero_add] at fq;have hgo:=zxn t l s.k n ns hall hw;by_cases hnl:t[s.k+n]?=some 10
  ·rw[if_pos ((zp8 t (s.k+n) 10).2 hnl)];have jg:=(Qb.1 hnl).1;obtain⟨l2,i2,hs2,hr2⟩:=hgo.next jg;obtain⟨c2,hc2,bg⟩:=hs2;rw[hnl] at hc2;have:=Qy hc2;subst this;rw[if_neg (by rintro⟨h,_⟩;revert h;decide),if_neg (by rintro⟨h,_⟩;revert h;decide),if_neg (by decide),if_neg (by rintro⟨h,_⟩;revert h;decide),if_pos rfl,fq] at bg;have htk:(l++List.replicate n (txtR [32])).take ((l++List.replicate n (txtR [32])).length-n)=l:=by
    rw[Qa,List.length_replicate,Nat.add_sub_cancel,Qbc (Qc _),Qbl]
   rw[htk] at bg;have hzz:=hz (s.k+n) 10 hnl (by decide);rw[bg.1,bg.2] at hr2;by_cases h2:2<=n
   ·rw[if_pos h2];rw[if_pos h2] at hr2;exact⟨_,h.lay (n+1) (zj7 10 [] (by decide)) (by omega) hzz,hr2⟩
   ·rw[if_neg h2];rw[if_neg h2] at hr2;exact⟨_,h.lay (n+1) (zj7 9 [] (by decide)) (by omega) hzz,hr2⟩
  ·rw[if_neg (λe=>hnl ((zp8 t (s.k+n) 10).1 e))];refine⟨_,h.text n (by rw[ht,hrep];exact zw0 n) (by omega) (.inr (by rw[ht];exact⟨hend,hnl⟩)),hgo⟩
 rw[if_neg h32];by_cases h10:b=10
 ·subst h10;rw[if_pos rfl];rw[if_neg (by rintro⟨h,_⟩;revert h;decide),if_pos rfl] at hst;have dw:spB t s.k=0:=by
   rcases dh with h1|h1
   ·exact h1
   ·exact absurd hbk h1.2
  rw[dw,Nat.sub_zero,Qbl,if_neg (by decide)] at hst;refine⟨_,h.lay 1 (zj7 9 [] (by decide)) (by omega) (hz _ 10 hbk (by decide)),?_⟩;rw[hst.1,hst.2] at hr;exact hr
 rw[if_neg h10];by_cases h60:b=60
 ·subst h60;rw[if_pos rfl];by_cases hok:S.zdb (t.drop s.k)=true
  ·rw[if_pos hok];have hang:ang t s.k=s.k+S.zdf (t.drop s.k)+1:=by unfold ang;rw[if_pos hok]
   have hab:=zpy t s.k (by rw[hang];omega);rw[hang] at hab;rw[if_pos ⟨rfl,by rw[hang];omega⟩] at hst;have jk:(S.zck (t.drop s.k)).length=S.zdf (t.drop s.k)-1:=by
    unfold S.zck;rw[Qbb,Ql,Qf];omega
   have hE:1<=S.zdf (t.drop s.k):=by omega
   refine⟨l++[zpl (S.zck (t.drop s.k))],h.lay _ (Sg.node _ _ (show ¬(12:Int)=8 from by decide) ⟨rfl,rfl⟩ (by simp only[zhu,zbk,toRn,zda])) (by rw[jk];omega) (by
    have:=hz (s.k+S.zdf (t.drop s.k)+1-1) 62 hab.2.2 (by decide);rwa [show s.k+S.zdf (t.drop s.k)+1-1+1=s.k+((S.zck (t.drop s.k)).length+2) from by rw[jk];omega] at this),?_⟩
   rw[hst.1,hst.2,hang] at hr;have he:(t.drop (s.k+1)).take (s.k+S.zdf (t.drop s.k)+1-1-(s.k+1))=S.zck (t.drop s.k):=by
    unfold S.zck;rw[Qbb];congr 1;omega
   rw[he] at hr;show WTo t _ (s.k+((S.zck (t.drop s.k)).length+2)) ns;rw[jk,show s.k+(S.zdf (t.drop s.k)-1+2)=s.k+S.zdf (t.drop s.k)+1 from by omega];exact hr
  ·rw[if_neg hok];have hang:ang t s.k=0:=by unfold ang;rw[if_neg hok]
   exact hlast (by decide) (zh6 hbk hs0 (λe=>h92 e.1) (λe=>h92 e.1) h96 (by rw[hang];omega) (by decide) (by decide) (by decide) (by rintro⟨h,_⟩;revert h;decide) (by decide))
 rw[if_neg h60];rw[if_neg (λe=>h60 e.1),if_neg h10] at hst;by_cases hrun:b=42\/b=95
 ·rw[if_pos hrun];rw[if_pos hrun] at hst;obtain⟨hsm,hc1,hcl,hall,hend,hrep⟩:=zp1 t s.k b hbk;rw[hsm] at hst ⊢;obtain⟨n,hn⟩:=Qyy (S.cnt b (t.drop s.k));rw[hn] at hst hsm hc1 hcl hall hend hrep ⊢;have jh:b≠32:=h32;have gq:runR t s.k=⟨2,[],zqu,b,n,n,S.zc0 t s.k n,S.zbg t s.k n,false,false⟩:=by
   unfold runR;rw[hsm,hbk];rfl
  have gy:zku ct s.k n=.mk 8 [] (List.replicate n b) [] n (S.zc0 t s.k n) (S.zbg t s.k n):=by
   unfold zku;rw[ht,hrep]
  refine⟨l++[runR t s.k],h.lay n ?_ (by omega) (by
   have:=hz (s.k+(n-1)) b (hall _ (by omega)) jh;rwa [show s.k+(n-1)+1=s.k+n from by omega] at this),?_⟩
  ·rw[gq,gy];refine⟨λq hq=>?_,λq hq=>?_,λq hq=>?_,?_⟩
   ·rw[Qbi] at hq;subst hq;exact show ¬(2:Int)=3 from by decide
   ·rw[Qbi] at hq;subst hq;exact .inl ⟨rfl,rfl⟩
   ·rw[Qbi] at hq;subst hq;exact .inl ⟨rfl,rfl,rfl,.inr ⟨b,by show List.replicate n b=List.replicate (List.replicate n b).length b;rw[List.length_replicate]⟩⟩
   ·rw[zge,ze4,zl1,Qbk];have e1:amR ⟨2,[],zqu,b,n,n,S.zc0 t s.k n,S.zbg t s.k n,false,false⟩=runA b n n (S.zc0 t s.k n) (S.zbg t s.k n):=by
     unfold amR;rw[if_neg (show ¬(2:Int)=1 from by decide)];rfl
    have e2:amP (.mk 8 [] (List.replicate n b) [] n (S.zc0 t s.k n) (S.zbg t s.k n))=if S.zc0 t s.k n=false/\S.zbg t s.k n=false then (List.replicate n b).map Am.b else runA ((List.replicate n b).headD 0) (List.replicate n b).length n (S.zc0 t s.k n) (S.zbg t s.k n):=by
     unfold amP;rw[if_pos (show (Pt.mk 8 [] (List.replicate n b) [] n (S.zc0 t s.k n) (S.zbg t s.k n)).kind=8 from rfl)];rfl
    rw[e1,e2,List.length_replicate,List.map_replicate];have hhd:(List.replicate n b).headD 0=b:=by
     cases n with
     | zero=>omega
     | succ n=>rfl
    rw[hhd];unfold runA;rw[if_neg (by omega)];split<;>rfl
  ·rw[hst.1,hst.2] at hr;exact hr
 rw[if_neg hrun];rw[if_neg hrun] at hst;by_cases h93:b=93
 ·subst h93;rw[if_pos (.inr (.inr rfl))];rw[if_neg (by decide),if_neg (by rintro⟨h,_⟩;revert h;decide),if_pos rfl] at hst;have hbr:s.bracket ct=s.close ct:=by
   unfold St.bracket;rw[ht,if_pos ((zp8 t s.k 93).2 hbk)]
  rw[hbr];rw[<-ht] at hst hr;have:=h.close (by rw[ht];exact hbk) hst;refine⟨l',this.1,?_⟩;rw[<-this.2,<-ht];exact hr
 by_cases h91:b=91
 ·subst h91;rw[if_pos (.inr (.inl rfl))];rw[if_pos rfl] at hst;have hbr:s.bracket ct=(true,s.open ct [91] false):=by
   unfold St.bracket;rw[ht,if_neg (λe=>by have:=(zp8 t s.k 93).1 e;rw[hbk] at this;revert this;decide),if_pos ((zp8 t s.k 91).2 hbk)]
  rw[hbr];simp only[if_true];refine⟨_,h.open [91] false (by show s.k+1<=_;omega) (hz _ 91 hbk (by decide)),?_⟩;rw[hst.1,hst.2] at hr;exact hr
 rw[if_neg h91] at hst;by_cases h33:b=33
 ·subst h33;rw[if_pos (.inl rfl)];by_cases hn:t[s.k+1]?=some 91
  ·rw[if_pos ⟨rfl,hn⟩] at hst;have hn2:=(Qb.1 hn).1;have hbr:s.bracket ct=(true,s.open ct [33,91] true):=by
    unfold St.bracket;rw[ht,if_neg (λe=>by have:=(zp8 t s.k 93).1 e;rw[hbk] at this;revert this;decide),if_neg (λe=>by have:=(zp8 t s.k 91).1 e;rw[hbk] at this;revert this;decide),if_pos ((zv1 t s.k 33 91).2 ⟨hbk,hn⟩)]
   rw[hbr];simp only[if_true];refine⟨_,h.open [33,91] true (by show s.k+2<=_;omega) (hz (s.k+1) 91 hn (by decide)),?_⟩;rw[hst.1,hst.2] at hr;exact hr
  ·have hbr:s.bracket ct=(false,s):=by
    unfold St.bracket;rw[ht,if_neg (λe=>by have:=(zp8 t s.k 93).1 e;rw[hbk] at this;revert this;decide),if_neg (λe=>by have:=(zp8 t s.k 91).1 e;rw[hbk] at this;revert this;decide),if_neg (λe=>hn ((zv1 t s.k 33 91).1 e).2)]
   rw[hbr];simp only[Bool.false_eq_true,if_false];exact hlast (by decide) (zh6 hbk hs0 (λe=>h92 e.1) (λe=>h92 e.1) h96 (λe=>h60 e.1) h10 hrun h91 (λe=>hn e.2) h93)
 ·rw[if_neg (λe=>e.elim h33 (λe=>e.elim h91 h93))];exact hlast h32 (zh6 hbk hs0 (λe=>h92 e.1) (λe=>h92 e.1) h96 (λe=>h60 e.1) h10 hrun h91 (λe=>h33 e.1) h93)
theorem Ends.same {ct:ByteArray}{s:St}{r:List Pt}(h:Ends ct s r):∀l ns,Sim ct l s->WTo ct.data.toList l s.k ns->ns=zda (zdi r):=by
 induction h with
 | done s hk=>
  intro l ns hS hw;cases hw with
  | done _ _ _ _ hp=>
   have hf:=hS.flush;exact zmm _ _ _ hf.all.2.2 hf.all.1 hf.all.2.1 hp
  | step _ _ _ _ _ hs _=>
   obtain⟨c,hc,_⟩:=hs;have:=(Qb.1 hc).1;rw[S.lda] at this;omega
 | go s r hk hr ih=>
  intro l ns hS hw;obtain⟨l',h1,h2⟩:=hS.step hk hw;exact ih l' ns h1 h2
theorem zvz (ct:ByteArray)(s:St):s.k<=(s.bracket ct).2.k/\((s.bracket ct).1=true->s.k<(s.bracket ct).2.k):=by
 unfold St.bracket;split
 ·unfold St.close;split
  ·exact⟨Qc _,λh=>by cases h⟩
  ·split
   ·exact⟨Nat.le_add_right _ _,λ_=>by show s.k<s.k+(3+_);omega⟩
   ·exact⟨Qc _,λh=>by cases h⟩
 ·split
  ·exact⟨Nat.le_add_right _ _,λ_=>by show s.k<s.k+1;omega⟩
  ·split
   ·exact⟨Nat.le_add_right _ _,λ_=>by show s.k<s.k+2;omega⟩
   ·exact⟨Qc _,λh=>by cases h⟩
theorem zz9 (ct:ByteArray)(s:St)(hk:s.k<ct.size):s.k<(step ct s).k:=by
 rw[zep ct s hk];have hsm:=(zgd ct s.k hk).1;unfold zje;split
 ·split
  ·show s.k<s.k+2;omega
  ·split
   ·show s.k<s.k+1+1;omega
   ·show s.k<s.k+1;omega
 ·split
  ·split
   ·show s.k<s.k+(_+S.same _);omega
   ·show s.k<s.k+S.same _;omega
  ·split
   ·split
    ·split
     ·show s.k<s.k+(_+1);omega
     ·show s.k<s.k+(_+1);omega
    ·show s.k<s.k+S.same _;omega
   ·split
    ·show s.k<s.k+1;omega
    ·split
     ·split
      ·show s.k<s.k+(_+2);omega
      ·show s.k<s.k+1;omega
     ·split
      ·show s.k<s.k+S.same _;omega
      ·split
       ·have hb:=zvz ct s;split
        ·rename_i h;exact hb.2 h
        ·show s.k<(s.bracket ct).2.k+1;omega
       ·show s.k<s.k+1;omega
theorem Sim.ends {ct:ByteArray}{ns:List Rn}(n:Nat):∀(l:List RPt) (s:St),ct.size-s.k<=n->Sim ct l s->WTo ct.data.toList l s.k ns->∃r,Ends ct s r:=by
 induction n with
 | zero=>
  intro l s hn hS hw;exact⟨_,Ends.done s (by have:=hS.kl;omega)⟩
 | succ n ih=>
  intro l s hn hS hw;by_cases hk:s.k<ct.size
  ·obtain⟨l',h1,h2⟩:=hS.step hk hw;have:=zz9 ct s hk;obtain⟨r,hr⟩:=ih l' (Go.Proofs.YtlojgpkajkedeaaGreatDoor.step ct s) (by omega) h1 h2;exact⟨r,Ends.go s r hk hr⟩
  ·exact⟨_,Ends.done s (by have:=hS.kl;omega)⟩
theorem zgz (c:List UInt8)(ns:List Rn)(h:WTo c [] 0 ns):ns=zda (zen c):=by
 have hS:Sim (S.B c) [] zh7:=⟨Qc _,Qt _,⟨[],[],rfl,Br.base _ _ Sg.nil,TxtR.nil⟩,.inl rfl⟩;have hw:WTo (S.B c).data.toList [] zh7.k ns:=by rw[S.zaz];exact h
 obtain⟨r,hE⟩:=Sim.ends _ [] zh7 (Qc _) hS hw;rw[zky c r hE];exact hE.same [] ns hS hw
abbrev CT (s:List UInt8)(ns:List Rn):Prop:=ns=zda (zen s)
end Go.Proofs.YtlojgpkajkedeaaGreatDoor
