import Derived.Test.YtlojgpkajkedeaaGreatDoorNRW
set_option maxHeartbeats 16000000
set_option maxRecDepth 100000
namespace Go.Proofs.YtlojgpkajkedeaaGreatDoor
open Go.RowKit Go.Proofs.Tryz
theorem z5l (c:UInt8)(wx:World):(convert 45 9 (.slice (some ⟨wx.heap.size,0,none⟩) 1 1)).run prog (wx.alloc (.cells #[.int .u8 (c.toNat:Int)] 5))=.ok (.string ⟨#[c]⟩) (wx.alloc (.cells #[.int .u8 (c.toNat:Int)] 5)):=by
 refine run_convert_bytes_back _ 45 9 5 ⟨wx.heap.size,0,none⟩ 1 [c] underlying45 underlying5 underlying9 ?_;intro j hj;have:j=0:=by simpa using hj
 subst this;exact World.news_of_block (za1 _ _) 0 _ rfl
theorem z1m (a b:List UInt8):S.B a++S.B b=S.B (a++b):=by
 unfold S.B;apply ByteArray.ext
 simp[ByteArray.data_append]
def zkn (t:List UInt8):List Rn:=if t=[] then [] else [.nd 8 0 [] t 0 []]
def ze3:List RPt->List UInt8->List Rn
 | [],t=>zkn t
 | p::r,t=>if p.what=1 then zkn t++p.node::ze3 r [] else ze3 r (t++p.s++List.replicate p.left p.c)
def PRow (w:World)(a:Option Addr)(ps:List (RPt × Value)):Prop:=ps=[]\/∃b o,a=some ⟨b,o,none⟩/\b<w.heap.size/\∀(i:Nat) (p:RPt × Value),ps[i]?=some p->∀j u,(pt16 p.1 p.2)[j]?=some u->w.cell? ⟨b,o+i*16+j,none⟩=some u
def zc8 (ps:List (RPt × Value)):Nat:=(ps.map (λp=>p.1.s.length+p.1.left)).sum
theorem zhi (ps:List (RPt × Value))(i:Nat)(p:RPt × Value)(h:ps[i]?=some p):zc8 (ps.take (i+1))=zc8 (ps.take i)+(p.1.s.length+p.1.left):=by
 unfold zc8;rw[List.take_add_one,h];simp
theorem ze8 (ps:List (RPt × Value))(i:Nat):zc8 (ps.take i)<=zc8 ps:=by
 have h:zc8 ps=zc8 (ps.take i)+zc8 (ps.drop i):=by
  unfold zc8;rw[<-List.sum_append,<-Qv,List.take_append_drop]
 omega
structure MOwn (K:Nat->Prop)(w:World)(ns:List (Rn × Value))(a:Option Addr)(cp:Nat)(wr:World):Prop where
 own:wr.ownsRow w.heap.size 118 7 (.slice a ns.length cp) ns.length (zca ns)
 kids:∀(j:Nat) (q:Rn × Value),ns[j]?=some q->RepN wr K q.2 q.1.kids
 below:Below w.heap.size w wr
theorem MOwn.after {K:Nat->Prop}{w wr wx:World}{ns:List (Rn × Value)}{a:Option Addr}{cp:Nat}(h:MOwn K w ns a cp wr)(hK:∀x,K x->x<w.heap.size)(hb:Below wr.heap.size wr wx):MOwn K w ns a cp wx:=by
 have h1:=h.below.size;exact⟨zej h.own (λx _ hx2=>hb.block x hx2),λj q hq=>(h.kids j q hq).move (λx hx=>hx) (λx hx=>hb.block x (Qh (hK x hx) h1)),h.below.trans (hb.mono h1)⟩
theorem MOwn.step {K:Nat->Prop}{w wr w2:World}{ob:Obj}{ns:List (Rn × Value)}{a:Option Addr}{cp g cap1:Nat}{t:Rn}{kv:Value}(h:MOwn K w ns a cp wr)(hK:∀x,K x->x<w.heap.size)(hrep:RepN wr K kv t.kids)
  (ho:w2.ownsRow w.heap.size 118 7 (.slice (some ⟨g,0,none⟩) (ns.length+1) cap1) (ns.length+1) (zca ns++rn7 t kv)) (hg:(wr.alloc ob).grownBy w2 (Value.slice a ns.length cp).ownBlock):MOwn K w (ns++[(t,kv)]) (some ⟨g,0,none⟩) cap1 w2:=by
 have h1:=h.below.size;have hlt:=h.own.lt;have hbX:Below wr.heap.size wr (wr.alloc ob):=(Below.refl _ _).alloc (Qc _) ob;have hblk:∀x,K x->w2.heap[x]?=wr.heap[x]?:=λx hx=>by
  have h2:=hK x hx;have h3:=hbX.size;rw[hg.block x (by omega) (λe=>by have:=hlt x e.symm;omega),hbX.block x (by omega)]
 refine⟨by rw[zkg,Qa];exact ho,?_,?_⟩
 ·intro j q hq;by_cases hj:j<ns.length
  ·rw[Qbd hj] at hq;exact(h.kids j q hq).move (λx hx=>hx) hblk
  ·rw[Qu (by omega)] at hq;have hj0:j-ns.length=0:=by have:=(Qb.1 hq).1;simp at this;omega
   rw[hj0] at hq;simp at hq;subst hq;exact hrep.move (λx hx=>hx) hblk
 ·exact Below.grown (h.below.trans (hbX.mono h1)) hg (Qj h1 hbX.size) (λq hq=>(hlt q hq).1)
structure MRel (K:Nat->Prop)(w:World)(ps:List (RPt × Value))(i:Nat)(t:List UInt8)(ns:List (Rn × Value))(a:Option Addr)(cp:Nat)(wr:World):Prop where
 spec:ze3 (ps.map Prod.fst) []=ns.map Prod.fst++ze3 ((ps.map Prod.fst).drop i) t
 small:t.length<=zc8 (ps.take i)
 count:ns.length<=2*i
 own:MOwn K w ns a cp wr
def z0m:List RPt->List Rn
 | []=>[]
 | p::r=>p.node::ze3 r []
theorem znv (K:Nat->Prop)(a:Option Addr)(cap:Nat)(ps:List (RPt × Value))(w:World)(hrow:PRow w a ps)(hkid:∀(i:Nat) (p:RPt × Value),ps[i]?=some p->RepN w K p.2 p.1.node.kids)(hK:∀x,K x->x<w.heap.size)(hlen:ps.length<=4000000)(htx:zc8 ps<=4000000):Calls prog 191 #[.slice a ps.length cap] w λe w'=>∃v,e=.returned v/\RepN w' (λx=>K x\/(w.heap.size<=x/\x<w'.heap.size)) v (ze3 (ps.map Prod.fst) [])/\Below w.heap.size w w':=by
 obtain⟨i0,hi',hi0,hi1,hi2⟩:=info_parts Tryz.zmf;have dw:=hid hrow;have jh:=hid hkid;have qg:=hid hK;have lg:=hid htx;clear hrow hkid hK htx;go_enter func191,ntmps191;go_upto_region 4 with fail
 go_loopw [3,4,5,6] (λov tv iv _ wr=>∃(i n':Nat) (t:List UInt8) (a':Option Addr) (cp:Nat),i<=ps.length+1/\iv=.int .i64 i/\tv=.string (S.B t)/\ov=.slice a' n' cp/\t.length<=4000000/\Hid (∃ns,n'=ns.length/\((i<=ps.length/\MRel K w ps i t ns a' cp wr)\/(i=ps.length+1/\ze3 (ps.map Prod.fst) []=ns.map Prod.fst/\MOwn K w ns a' cp wr)))) (λ_ _ iv _ _=>ps.length+2-(intOf iv).toNat)
 case atStart=>exact⟨0,0,[],none,0,by omega,rfl,rfl,rfl,by simp,hid ⟨[],rfl,.inl ⟨Qt _,⟨rfl,Qt _,Qt _,World.ownsRow_nil _ _ _ _,λj q h=>by simp at h,Below.refl _ _⟩⟩⟩⟩
 case round=>
  obtain⟨i,n',t,a',cp,hi,rfl,rfl,rfl,htl,hr⟩:=hrel;by_cases hie:i=ps.length+1
  ·subst hie;have hJ:¬((ps.length+1:Nat):Int)<=(ps.length:Int):=by omega
   go_wp2;go_ret;obtain⟨ns,rfl,h|⟨_,h1,h2⟩⟩:=hr.out
   ·omega
   ·refine⟨_,rfl,?_,h2.below⟩;rw[h1];exact zgp h2.own (λg hg=>.inr (h2.own.lt g hg)) (λj q hq=>(h2.kids j q hq).move (λx hx=>.inl hx) (λ_ _=>rfl))
  ·have hil:i<=ps.length:=by omega
   have hJ:(i:Int)<=(ps.length:Int):=by omega
   have hR:Hid (∃ns,n'=ns.length/\MRel K w ps i t ns a' cp wr):=hid (by
    obtain⟨ns,h0,h|⟨h,_⟩⟩:=hr.out
    ·exact⟨ns,h0,h.2⟩
    ·exact absurd h hie)
   clear hr hi hie;by_cases hA:∃p,ps[i]?=some p/\p.1.what≠1
   ·obtain⟨p,hp,hw1⟩:=hA;have hlt:i<ps.length:=(Qb.1 hp).1;obtain⟨b,o,rfl,hbw,hcell⟩:∃b o,a=some ⟨b,o,none⟩/\b<w.heap.size/\∀(i:Nat) (p:RPt × Value),ps[i]?=some p->∀j u,(pt16 p.1 p.2)[j]?=some u->w.cell? ⟨b,o+i*16+j,none⟩=some u:=by
     rcases dw.out with h|h
     ·subst h;simp at hp
     ·exact h
    have hbr:Below w.heap.size w wr:=(by obtain⟨ns,_,h⟩:=hR.out;exact h.own.below);have hcr:∀wx,Below w.heap.size w wx->∀j u,(pt16 p.1 p.2)[j]?=some u->wx.cell? ⟨b,o+i*16+j,none⟩=some u:=λwx hx j u hu=>(hx.cell (p:=⟨b,o+i*16+j,none⟩) hbw).trans (hcell i p hp j u hu);have c0:wr.cell? ⟨b,o+i*16,none⟩=some (.int .i64 p.1.what):=hcr wr hbr 0 _ rfl;have c1:wr.cell? ⟨b,o+i*16+1,none⟩=some (.string (S.B p.1.s)):=hcr wr hbr 1 _ rfl;have jk:=hid hcr;have qh:=hid hbr;have jy:(i:Int)<(ps.length:Int):=(by omega);have hJ0:(0:Int)<=(i:Int):=(by omega);have hwb:((p.1.what:Int) == 1)=false:=(by rw[Qe];exact hw1);have hpl:=ze8 ps (i+1);rw[zhi ps i p hp] at hpl;have lq:t.length+(p.1.s.length+p.1.left)<=4000000:=by
     obtain⟨ns,_,h⟩:=hR.out;have:=h.small;have:=lg.out;omega
    have pz:=hid hp;have kr:=hid hw1;have jl:Op.stringOp .add (S.B t) (S.B p.1.s)=pure (.string (S.B (t++p.1.s))):=by
     rw[zn2 _ _ (by rw[S.zav,S.zav];omega),z1m]
    have mh:=hid hpl;clear hp hw1 hcell hcr hbr hpl;have dh:Hid (∀wx,(∃ns,n'=ns.length/\MRel K w ps i t ns a' cp wx)->∃ns,n'=ns.length/\MRel K w ps (i+1) (t++p.1.s++List.replicate p.1.left p.1.c) ns a' cp wx):=hid (λwx h=>by
     obtain⟨ns,h0,h⟩:=h;have hd:(ps.map Prod.fst).drop i=p.1::(ps.map Prod.fst).drop (i+1):=by
      have h1:(ps.map Prod.fst)[i]?=some p.1:=(by rw[List.getElem?_map,pz.out];rfl);obtain⟨h2,h3⟩:=Qb.1 h1;rw[Qm h2,h3]
     refine⟨ns,h0,?_,?_,by have:=h.count;omega,h.own⟩
     ·rw[h.spec,hd];simp only[ze3];rw[if_neg kr.out]
     ·rw[zhi ps i p pz.out,Qa,Qa,List.length_replicate];have:=h.small;omega)
    have jg:∀x,K x->x<w.heap.size:=qg.out;obtain⟨pl,gq⟩:=Qyy (p.1.left);obtain⟨pc,gy⟩:=Qyy (p.1.c);obtain⟨T0,hT0⟩:=Qyy (t++p.1.s);have qj:T0.length+pl<=4000000:=(by rw[<-hT0,Qa];omega);rw[gq,gy,hT0] at dh;rw[hT0] at jl;have pq:Hid (∀wx,(∃ns,n'=ns.length/\MRel K w ps i t ns a' cp wx)->wx.cell? ⟨b,o+i*16+11,none⟩=some (.int .i64 (pl:Nat))/\wx.cell? ⟨b,o+i*16+9,none⟩=some (.int .u8 (pc.toNat:Int))/\b<wx.heap.size):=hid (λwx h=>by
     obtain⟨ns,h0,h⟩:=h;have hb:=h.own.below;exact⟨by rw[<-gq];exact jk.out wx hb 11 _ rfl,by rw[<-gy];exact jk.out wx hb 9 _ rfl,Qh hbw hb.size⟩)
    have ny:=hid jg;clear gq gy hT0 jg mh lq;go_upto_region 9 with fail
    clear c0 c1 jl;go_loopw [4,6] (λtv kv wx=>∃k:Nat,k<=pl/\kv=.int .i64 k/\tv=.string (S.B (T0++List.replicate k pc))/\Hid (∃ns,n'=ns.length/\MRel K w ps i t ns a' cp wx)) (λ_ kv _=>pl-(intOf kv).toNat)
    case atStart=>exact⟨0,Qt _,rfl,by simp,hR⟩
    case round=>
     obtain⟨k,hk,rfl,rfl,hR2⟩:=hrel;obtain⟨c11,c9,jm⟩:=pq.out _ hR2.out;by_cases hkl:k<pl
     ·have qm:(k:Int)<(pl:Int):=(by omega);have hcv:=z5l pc wr;have hcc:Op.stringOp .add (S.B (T0++List.replicate k pc)) ⟨#[pc]⟩=pure (.string (S.B (T0++List.replicate (k+1) pc))):=by
       rw[zn2 _ _ (by rw[S.zav,Qa,List.length_replicate];show T0.length+k+1<=_;omega)];rw[show (⟨#[pc]⟩:ByteArray)=S.B [pc] from rfl,z1m,Qp,List.replicate_succ']
      have ng:Hid (∀ob,∃ns,n'=ns.length/\MRel K w ps i t ns a' cp (wr.alloc ob)):=hid (λob=>by
       obtain⟨ns,h0,h⟩:=hR2.out;exact⟨ns,h0,h.spec,h.small,h.count,h.own.after ny.out ((Below.refl _ _).alloc (Qc _) ob)⟩)
      go_wp2;go_roundw
      case rel=>exact⟨k+1,by omega,by go_num,rfl,hid (ng.out _)⟩
      case measure=>simp[intOf];omega
     ·have hke:k=pl:=(by omega);subst hke;have qm:¬(k:Int)<(k:Int):=(by omega);have ng:=hid (dh.out _ hR2.out);clear dh;go_wp2;go_roundw
      case rel=>exact⟨i+1,n',_,a',cp,by omega,by go_num,rfl,rfl,by rw[Qa,List.length_replicate];omega,hid (by obtain⟨ns,h0,h⟩:=ng.out;exact⟨ns,h0,.inl ⟨by omega,h⟩⟩)⟩
      case measure=>simp[intOf];omega
   ·obtain⟨Tl,mq⟩:=Qyy (z0m ((ps.map Prod.fst).drop i));have hsp:Hid (∀u,ze3 ((ps.map Prod.fst).drop i) u=zkn u++Tl):=hid (λu=>by
     rw[<-mq];cases hp:ps[i]? with
     | none=>
      rw[Qw (by rw[List.length_map];exact List.getElem?_eq_none_iff.1 hp)];simp[ze3,z0m]
     | some p=>
      have h1:(ps.map Prod.fst)[i]?=some p.1:=(by rw[List.getElem?_map,hp];rfl);obtain⟨h2,h3⟩:=Qb.1 h1;rw[Qm h2,h3];simp only[ze3,z0m];rw[if_pos (by
       cases Decidable.em (p.1.what=1) with
       | inl h=>exact h
       | inr h=>exact absurd ⟨p,hp,h⟩ hA)])
    have dx:Hid (∀p,ps[i]?=some p->p.1.what=1/\∃b o,a=some ⟨b,o,none⟩/\b<w.heap.size/\∀wx,Below w.heap.size w wx->∀j u,(pt16 p.1 p.2)[j]?=some u->wx.cell? ⟨b,o+i*16+j,none⟩=some u):=hid (λp hp=>by
     refine⟨by
      cases Decidable.em (p.1.what=1) with
      | inl h=>exact h
      | inr h=>exact absurd ⟨p,hp,h⟩ hA,?_⟩
     rcases dw.out with h|⟨b,o,h1,h2,h3⟩
     ·subst h;simp at hp
     ·exact⟨b,o,h1,h2,λwx hx j u hu=>(hx.cell (p:=⟨b,o+i*16+j,none⟩) h2).trans (h3 i p hp j u hu)⟩)
    have jq:=hid mq;clear mq hA dw;go_upto_region 6 with fail
    go_cut [24] (λs24 wx=>s24=.bool false/\wr=wx)
    case first=>
     by_cases hlt:i<ps.length
     ·obtain⟨p,hp⟩:∃p,ps[i]?=some p:=⟨ps[i],Qg hlt⟩;obtain⟨hw1,b,o,rfl,hbw,hcr⟩:=dx.out p hp;have hbr:Below w.heap.size w wr:=(by obtain⟨ns,_,h⟩:=hR.out;exact h.own.below);have c0:wr.cell? ⟨b,o+i*16,none⟩=some (.int .i64 p.1.what):=hcr wr hbr 0 _ rfl;rw[hw1] at c0;have jm:b<wr.heap.size:=Qh hbw hbr.size;have jy:(i:Int)<(ps.length:Int):=(by omega);have hJ0:(0:Int)<=(i:Int):=(by omega);clear hp hw1 hcr hbr;go_wp2;go_meet;exact⟨rfl,rfl⟩
     ·have jy:¬(i:Int)<(ps.length:Int):=(by omega);go_wp2;go_meet;exact⟨rfl,rfl⟩
    case rest=>
    obtain⟨rfl,rfl⟩:=hcut;have jg:Hid (∀x,K x->x<w.heap.size):=qg;go_upto_region 12 with fail
    go_cut [51] (λs51 wx=>s51=.bool (decide (t≠[]))/\wr=wx)
    case first=>
     by_cases ht:t=[]
     ·subst ht;rw[show S.B ([]:List UInt8)=⟨#[]⟩ from rfl];go_wp2;go_meet;exact⟨rfl,rfl⟩
     ·have hpos:0<(S.B t).size:=(by rw[S.zav];exact Qbf.2 ht);have qb:=S.zbo _ hpos;have hTe:=S.zb6 _ hpos;have hd:Hid (decide (t≠[])=true):=hid (by simpa using ht);go_wp2;go_meet;exact⟨by rw[hd.out],rfl⟩
    case rest=>
    obtain⟨rfl,rfl⟩:=hcut;go_upto_if 51 with fail
    go_cut [3,4] (λs3 s4 wx=>∃(n2:Nat) (a2:Option Addr) (cp2:Nat),s4=.string ⟨#[]⟩/\s3=.slice a2 n2 cp2/\Hid (∃ns,n2=ns.length/\ze3 (ps.map Prod.fst) []=ns.map Prod.fst++Tl/\ns.length<=2*i+1/\MOwn K w ns a2 cp2 wx))
    case first=>
     by_cases ht:t=[]
     ·subst ht;rw[show S.B ([]:List UInt8)=⟨#[]⟩ from rfl,show decide (([]:List UInt8)≠[])=false from rfl];go_wp2;go_meet;refine⟨n',a',cp,rfl,rfl,hid ?_⟩;obtain⟨ns,h0,h⟩:=hR.out;exact⟨ns,h0,by rw[h.spec,hsp.out];rfl,by have:=h.count;omega,h.own⟩
     ·have hpos:0<(S.B t).size:=(by rw[S.zav];exact Qbf.2 ht);have qb:=S.zbo _ hpos;have hTe:=S.zb6 _ hpos;obtain⟨T,hT⟩:=Qyy (S.B t);rw[hT] at qb hTe hpos ⊢;rw[show decide (t≠[])=true by simpa using ht];obtain⟨ns,hn',hM⟩:=hR.out;subst hn';have hown2:Hid (∀ob,(wr.alloc ob).ownsRow w.heap.size 118 7 (.slice a' ns.length cp) ns.length (zca ns)):=hid (λob=>hM.own.own.alloc ob);have hnew:Hid (∀j v,([.int .i64 0,.int .i64 8,.int .i64 0,.string ⟨#[]⟩,.string T,.int .i64 0,.slice none 0 0]:List Value)[j]?=some v->(wr.alloc (.cells #[.int .i64 0,.int .i64 8,.int .i64 0,.string ⟨#[]⟩,.string T,.int .i64 0,.slice none 0 0] 118)).cell? ((⟨wr.heap.size,0,none⟩:Addr).add j)=some v):=hid (λj v hj=>World.news_of_block (za1 _ _) j v (by exact hj));have hone:Hid (∀v∈([.int .i64 0,.int .i64 8,.int .i64 0,.string ⟨#[]⟩,.string T,.int .i64 0,.slice none 0 0]:List Value),v.oneCell'=true):=hid (by
       intro v hv;simp at hv;rcases hv with rfl|rfl|rfl|rfl|rfl|rfl|rfl<;>rfl)
      have hstep:Hid (∀ob g' bg w2,w2.ownsRow w.heap.size 118 7 (.slice (some ⟨g',0,none⟩) (ns.length+1) bg) (ns.length+1) (zca ns++[.int .i64 0,.int .i64 8,.int .i64 0,.string ⟨#[]⟩,.string T,.int .i64 0,.slice none 0 0])->(wr.alloc ob).grownBy w2 (Value.slice a' ns.length cp).ownBlock->∃fq,ns.length+1=fq.length/\ze3 (ps.map Prod.fst) []=fq.map Prod.fst++Tl/\fq.length<=2*i+1/\MOwn K w fq (some ⟨g',0,none⟩) bg w2):=hid (λob g' bg w2 ho hgw=>by
       refine⟨ns++[(.nd 8 0 [] t 0 [],.slice none 0 0)],by simp,?_,by have:=hM.count;simp;omega,?_⟩
       ·rw[hM.spec,hsp.out,Qv,Qp];unfold zkn;rw[if_neg ht];rfl
       ·refine hM.own.step jg.out .nil ?_ hgw;subst hT;exact ho)
      have kg:w.heap.size<=wr.heap.size:=hM.own.below.size;have hcnt:ns.length+1<=8000001:=(by have:=hM.count;omega);clear hM hT ht;go_wp2_with (at_builtin;refine wpList_append_lies _ (by rfl) _ _ 80 (by rfl) w.heap.size 118 i0 (.agg #[.int .i64 0,.int .i64 0,.int .i64 0,.string ⟨#[]⟩,.string ⟨#[]⟩,.int .i64 0,.slice none 0 0]) 7 88 underlying80 hi' hi0 hi1 hi2 (by rfl) (by omega) (.slice a' ns.length cp) ns.length (zca ns) (by rfl) (hown2.out _) ⟨wr.heap.size,0,none⟩ 1 1 [.int .i64 0,.int .i64 8,.int .i64 0,.string ⟨#[]⟩,.string T,.int .i64 0,.slice none 0 0] (by rfl) (by rfl) hnew.out hone.out (by omega) (by unfold maxLen;omega) (by omega) (by simp;omega) (wr.heap.size+1) (by simp) ?_)
      intro g' bg w2 hown1 hgrow hat jd;have jw:=hid (hstep.out _ g' bg w2 hown1 hgrow);clear hown1 hgrow hat jd;go_wp2;go_meet;exact⟨ns.length+1,some ⟨g',0,none⟩,bg,rfl,rfl,jw⟩
    case rest=>
    obtain⟨n2,a2,cp2,rfl,rfl,hR2⟩:=hcut;clear hR hsp;by_cases hlt:i<ps.length
    ·obtain⟨p,hp⟩:∃p,ps[i]?=some p:=⟨ps[i],Qg hlt⟩;obtain⟨hw1,b,o,rfl,hbw,hcr⟩:=dx.out p hp;obtain⟨ns,hn2,hM1,hM2,hM⟩:=hR2.out;subst hn2;have hkp:=jh.out i p hp;obtain⟨ka,kn,kc,hkv⟩:=hkp.form;have hbr:=hM.below;have c2:wc.cell? ⟨b,o+i*16+2,none⟩=some (.int .i64 0):=hcr wc hbr 2 _ rfl;have c3:wc.cell? ⟨b,o+i*16+3,none⟩=some (.int .i64 p.1.node.kind):=hcr wc hbr 3 _ rfl;have c4:wc.cell? ⟨b,o+i*16+4,none⟩=some (.int .i64 p.1.node.n):=hcr wc hbr 4 _ rfl;have c5:wc.cell? ⟨b,o+i*16+5,none⟩=some (.string (S.B p.1.node.info)):=hcr wc hbr 5 _ rfl;have c6:wc.cell? ⟨b,o+i*16+6,none⟩=some (.string (S.B p.1.node.text)):=hcr wc hbr 6 _ rfl;have c7:wc.cell? ⟨b,o+i*16+7,none⟩=some (.int .i64 p.1.node.line):=hcr wc hbr 7 _ rfl;have c8:wc.cell? ⟨b,o+i*16+8,none⟩=some (.slice ka kn kc):=(by rw[<-hkv];exact hcr wc hbr 8 _ rfl);obtain⟨nk,hnk⟩:∃x,p.1.node.kind=x:=⟨_,rfl⟩;obtain⟨nn,hnn⟩:∃x,p.1.node.n=x:=⟨_,rfl⟩;obtain⟨nf,hnf⟩:∃x,S.B p.1.node.info=x:=⟨_,rfl⟩;obtain⟨nt,hnt⟩:∃x,S.B p.1.node.text=x:=⟨_,rfl⟩;obtain⟨nl,hnl⟩:∃x,p.1.node.line=x:=⟨_,rfl⟩;rw[hnk] at c3;rw[hnn] at c4;rw[hnf] at c5;rw[hnt] at c6;rw[hnl] at c7;have jm:b<wc.heap.size:=Qh hbw hbr.size;have kg:w.heap.size<=wc.heap.size:=hbr.size;have jy:(i:Int)<(ps.length:Int):=(by omega);have hJ0:(0:Int)<=(i:Int):=(by omega);have hcnt:ns.length+1<=8000003:=(by omega);have hown2:Hid (∀ob,(wc.alloc ob).ownsRow w.heap.size 118 7 (.slice a2 ns.length cp2) ns.length (zca ns)):=hid (λob=>hM.own.alloc ob);have hnew:Hid (∀j v,([.int .i64 0,.int .i64 nk,.int .i64 nn,.string nf,.string nt,.int .i64 nl,.slice ka kn kc]:List Value)[j]?=some v->(wc.alloc (.cells #[.int .i64 0,.int .i64 nk,.int .i64 nn,.string nf,.string nt,.int .i64 nl,.slice ka kn kc] 118)).cell? ((⟨wc.heap.size,0,none⟩:Addr).add j)=some v):=hid (λj v hj=>World.news_of_block (za1 _ _) j v (by exact hj));have hone:Hid (∀v∈([.int .i64 0,.int .i64 nk,.int .i64 nn,.string nf,.string nt,.int .i64 nl,.slice ka kn kc]:List Value),v.oneCell'=true):=hid (by
      intro v hv;simp at hv;rcases hv with rfl|rfl|rfl|rfl|rfl|rfl|rfl<;>rfl)
     have hstep:Hid (∀ob g' bg w2,w2.ownsRow w.heap.size 118 7 (.slice (some ⟨g',0,none⟩) (ns.length+1) bg) (ns.length+1) (zca ns++[.int .i64 0,.int .i64 nk,.int .i64 nn,.string nf,.string nt,.int .i64 nl,.slice ka kn kc])->(wc.alloc ob).grownBy w2 (Value.slice a2 ns.length cp2).ownBlock->∃fq,ns.length+1=fq.length/\MRel K w ps (i+1) [] fq (some ⟨g',0,none⟩) bg w2):=hid (λob g' bg w2 ho hgw=>by
      refine⟨ns++[(p.1.node,.slice ka kn kc)],by simp,?_,Qt _,by simp;omega,?_⟩
      ·rw[hM1,<-jq.out,Qv,Qp];have h1:(ps.map Prod.fst)[i]?=some p.1:=(by rw[List.getElem?_map,hp];rfl);obtain⟨h2,h3⟩:=Qb.1 h1;rw[Qm h2,h3];rfl
      ·refine hM.step jg.out ?_ ?_ hgw
       ·rw[<-hkv];exact hkp.move (λx hx=>hx) (λx hx=>hbr.block x (jg.out x hx))
       ·subst hnk hnn hnf hnt hnl;exact ho)
     clear hp hw1 hcr hkp hkv hM1 hM2 hM hbr hnk hnn hnf hnt hnl;go_wp2_with (at_builtin;refine wpList_append_lies _ (by rfl) _ _ 80 (by rfl) w.heap.size 118 i0 (.agg #[.int .i64 0,.int .i64 0,.int .i64 0,.string ⟨#[]⟩,.string ⟨#[]⟩,.int .i64 0,.slice none 0 0]) 7 88 underlying80 hi' hi0 hi1 hi2 (by rfl) (by omega) (.slice a2 ns.length cp2) ns.length (zca ns) (by rfl) (hown2.out _) ⟨wc.heap.size,0,none⟩ 1 1 [.int .i64 0,.int .i64 nk,.int .i64 nn,.string nf,.string nt,.int .i64 nl,.slice ka kn kc] (by rfl) (by rfl) hnew.out hone.out (by omega) (by unfold maxLen;omega) (by omega) (by simp;omega) (wc.heap.size+1) (by simp) ?_)
     intro g' bg w2 hown1 hgrow hat jd;have jw:=hid (hstep.out _ g' bg w2 hown1 hgrow);clear hown1 hgrow hat jd;go_wp2;go_roundw
     case rel=>exact⟨i+1,ns.length+1,[],some ⟨g',0,none⟩,bg,by omega,by go_num,rfl,rfl,by simp,hid (by obtain⟨fq,h0,h⟩:=jw.out;exact⟨fq,h0,.inl ⟨by omega,h⟩⟩)⟩
     case measure=>simp[intOf];omega
    ·have hie:i=ps.length:=(by omega);have jy:¬(i:Int)<(ps.length:Int):=(by omega);have jw:Hid (∃ns,n2=ns.length/\ze3 (ps.map Prod.fst) []=ns.map Prod.fst/\MOwn K w ns a2 cp2 wc):=hid (by
      obtain⟨ns,h0,h1,h2,h3⟩:=hR2.out;refine⟨ns,h0,?_,h3⟩;rw[h1,<-jq.out,Qw (by rw[List.length_map];omega)];simp[z0m])
     clear hR2;go_wp2;go_roundw
     case rel=>exact⟨i+1,n2,[],a2,cp2,by omega,by go_num,rfl,rfl,by simp,hid (by obtain⟨ns,h0,h1,h2⟩:=jw.out;exact⟨ns,h0,.inr ⟨by omega,h1,h2⟩⟩)⟩
     case measure=>simp[intOf];omega
theorem Tryz.zm9:(prog.info? 196).map (λi=>(i.zero,i.size,i.bytes))=some (some (.agg #[.int .i64 0,.string ⟨#[]⟩,.int .i64 0,.int .i64 0,.int .i64 0,.string ⟨#[]⟩,.string ⟨#[]⟩,.int .i64 0,.slice none 0 0,.int .u8 0,.int .i64 0,.int .i64 0,.bool false,.bool false,.bool false,.bool false]),16,144):=by kernel_rfl
def za9 (ps:List (RPt × Value)):List Value:=(ps.map (λp=>pt16 p.1 p.2)).flatten
theorem zht (a b:List (RPt × Value)):za9 (a++b)=za9 a++za9 b:=by simp[za9]
theorem zdr (p:RPt × Value)(r:List (RPt × Value)):za9 (p::r)=pt16 p.1 p.2++za9 r:=by simp[za9]
theorem zez (p:RPt)(v:Value):(pt16 p v).length=16:=rfl
theorem zc5 (ps:List (RPt × Value)):(za9 ps).length=ps.length*16:=by
 induction ps with
 | nil=>rfl
 | cons p r ih=>rw[zdr,Qa,zez,ih,Qd];omega
theorem zia (ps:List (RPt × Value))(i j:Nat)(p:RPt × Value)(h:ps[i]?=some p)(hj:j<16):(za9 ps)[16*i+j]?=(pt16 p.1 p.2)[j]?:=by
 induction ps generalizing i with
 | nil=>simp at h
 | cons q r ih=>
  rw[zdr];cases i with
  | zero=>
   simp at h;subst h;rw[Qbd (by rw[zez];omega)];simp
  | succ i=>
   rw[Qu (by rw[zez];omega),zez,<-ih i (by simpa using h)];congr 1;omega
theorem ztq (ps:List (RPt × Value))(i j:Nat)(p q:RPt × Value)(u:Value)(h:ps[i]?=some p)(hq:pt16 q.1 q.2=(pt16 p.1 p.2).set j u)(hj:j<16):za9 (ps.set i q)=(za9 ps).set (16*i+j) u:=by
 induction ps generalizing i with
 | nil=>simp at h
 | cons x r ih=>
  cases i with
  | zero=>
   simp at h;subst h;rw[List.set_cons_zero,zdr,zdr,hq,List.set_append_left _ _ (by rw[zez];omega)];simp
  | succ i=>
   rw[List.set_cons_succ,zdr,zdr,ih i (by simpa using h),List.set_append_right _ _ (by rw[zez];omega),zez];congr 2;omega
theorem zd7 (a b:List (RPt × Value)):zc8 (a++b)=zc8 a+zc8 b:=by simp[zc8]
theorem zef (p:RPt × Value)(r:List (RPt × Value)):zc8 (p::r)=p.1.s.length+p.1.left+zc8 r:=by simp[zc8]
theorem PRow.news {w:World}{b o:Nat}{ps:List (RPt × Value)}(hc:∀(i:Nat) (p:RPt × Value),ps[i]?=some p->∀j u,(pt16 p.1 p.2)[j]?=some u->w.cell? ⟨b,o+i*16+j,none⟩=some u)(jj:Nat)(u:Value)(h:(za9 ps)[jj]?=some u):w.cell? ((⟨b,o,none⟩:Addr).add jj)=some u:=by
 have hl:=(Qb.1 h).1;rw[zc5] at hl;have hi:jj / 16<ps.length:=by omega
 have hp:ps[jj / 16]?=some ps[jj / 16]:=Qg hi;have hg:=zia ps (jj / 16) (jj % 16) _ hp (by omega);rw[show 16*(jj / 16)+jj % 16=jj by omega,h] at hg;have:=hc _ _ hp _ _ hg.symm;have ha:(⟨b,o,none⟩:Addr).add jj=⟨b,o+jj / 16*16+jj % 16,none⟩:=by
  simp only[Addr.add];split
  ·rename_i h;simp<;>omega
  ·simp<;>omega
 rw[ha];exact this
theorem PRow.below {w wx:World}{a:Option Addr}{ps:List (RPt × Value)}(h:PRow w a ps)(hb:Below w.heap.size w wx):PRow wx a ps:=by
 rcases h with h|⟨b,o,h1,h2,h3⟩
 ·exact .inl h
 ·exact .inr ⟨b,o,h1,Qh h2 hb.size,λi p hi j u hu=>(hb.cell (p:=⟨b,o+i*16+j,none⟩) h2).trans (h3 i p hi j u hu)⟩
structure POwn (D:Nat->Prop)(B:Nat)(qs:List (RPt × Value))(v:Value)(wr:World):Prop where
 own:wr.ownsRow B 196 16 v qs.length (za9 qs)
 kids:∀(i:Nat) (q:RPt × Value),qs[i]?=some q->RepN wr (λx=>D x/\x<wr.heap.size/\some x≠v.ownBlock) q.2 q.1.node.kids
theorem POwn.nil (D:Nat->Prop)(B:Nat)(w:World):POwn D B [] (.slice none 0 0) w:=⟨World.ownsRow_nil _ _ _ _,λi q h=>by simp at h⟩
theorem POwn.row {D:Nat->Prop}{B:Nat}{qs:List (RPt × Value)}{a:Option Addr}{n cap:Nat}{wr:World}(h:POwn D B qs (.slice a n cap) wr):PRow wr a qs:=by
 rcases h.own.2 with ⟨h1,h2⟩|⟨g,cap',cur,h1,h2,h3,h4,h5,h6,h7⟩
 ·exact .inl (List.eq_nil_of_length_eq_zero h2)
 ·injection h1 with e1 e2 e3
  subst e1;refine .inr ⟨g,0,rfl,(Qq.1 h3).1,λi q hi j u hu=>?_⟩;have hj:j<16:=by have:=(Qb.1 hu).1;rw[zez] at this;exact this
  have hx:=zia qs i j q hi hj;rw[hu] at hx;have:=h.own.cells (g:=g) rfl (16*i+j) u hx;have ha:(⟨g,0,none⟩:Addr).add (16*i+j)=⟨g,0+i*16+j,none⟩:=by
   simp only[Addr.add];split
   ·rename_i h;simp<;>omega
   ·simp<;>omega
  rw[<-ha];exact this
theorem POwn.after {D:Nat->Prop}{B:Nat}{qs:List (RPt × Value)}{v:Value}{wr wx:World}(h:POwn D B qs v wr)(hb:Below wr.heap.size wr wx):POwn D B qs v wx:=
 ⟨zej h.own (λx _ hx2=>hb.block x hx2),λi q hi=>(h.kids i q hi).move (λ_ hx=>⟨hx.1,Qh hx.2.1 hb.size,hx.2.2⟩) (λx hx=>hb.block x hx.2.1)⟩
theorem POwn.many {D:Nat->Prop}{B:Nat}{qs rs:List (RPt × Value)}{v:Value}{w1 w2:World}{g cap1:Nat}(h:POwn D B qs v w1)(hrep:∀(i:Nat) (q:RPt × Value),rs[i]?=some q->RepN w1 (λx=>D x/\x<w1.heap.size/\some x≠v.ownBlock) q.2 q.1.node.kids)
  (ho:w2.ownsRow B 196 16 (.slice (some ⟨g,0,none⟩) (qs.length+rs.length) cap1) (qs.length+rs.length) (za9 qs++za9 rs)) (hg:w1.grownBy w2 v.ownBlock) (hat:v.ownBlock=some g\/w1.heap.size<=g):POwn D B (qs++rs) (.slice (some ⟨g,0,none⟩) (qs++rs).length cap1) w2:=by
 have hs:=hg.size;have hmv:∀x,(D x/\x<w1.heap.size/\some x≠v.ownBlock)->(D x/\x<w2.heap.size/\some x≠(Value.slice (some ⟨g,0,none⟩) (qs++rs).length cap1).ownBlock):=λx hx=>⟨hx.1,by omega,by
  show some x≠some g;rcases hat with e|e
  ·rw[<-e];exact hx.2.2
  ·intro e2;cases e2;omega⟩
 have hbl:∀x,(D x/\x<w1.heap.size/\some x≠v.ownBlock)->w2.heap[x]?=w1.heap[x]?:=λx hx=>hg.block x hx.2.1 hx.2.2;refine⟨by rw[zht,Qa];exact ho,λi q hi=>?_⟩;by_cases hil:i<qs.length
 ·rw[Qbd hil] at hi;exact(h.kids i q hi).move hmv hbl
 ·rw[Qu (by omega)] at hi;exact(hrep _ q hi).move hmv hbl
theorem POwn.set {D:Nat->Prop}{B:Nat}{qs:List (RPt × Value)}{g n cap:Nat}{wr:World}(h:POwn D B qs (.slice (some ⟨g,0,none⟩) n cap) wr)(i j:Nat)(q q':RPt × Value)(u:Value)(hi:qs[i]?=some q)(hj:j<16)(hq:pt16 q'.1 q'.2=(pt16 q.1 q.2).set j u)(hn:q'.1.node=q.1.node)(hv:q'.2=q.2):POwn D B (qs.set i q') (.slice (some ⟨g,0,none⟩) n cap) (wr.setCell ⟨g,i*16+j,none⟩ u)/\wr.cell? ⟨g,i*16+j,none⟩=(pt16 q.1 q.2)[j]?/\wr.frozen? ⟨g,i*16+j,none⟩=false/\(∀B',B'<=g->∀w0,Below B' w0 wr->Below B' w0 (wr.setCell ⟨g,i*16+j,none⟩ u)):=by
 have hil:=(Qb.1 hi).1;rcases h.own.2 with ⟨h1,h2⟩|⟨g',cap',cur,h1,h2,h3,h4,h5,h6,h7⟩
 ·cases h1
 ·injection h1 with e1 e2 e3
  injection e1 with e1
  injection e1 with e1
  subst e1;have hx:wr.heap[g]?=some (.cells cur.toList.toArray 196 (0,0)):=h3;have hset:=za3 hx (i*16+j) u;have hlc:(za9 qs)[16*i+j]?=(pt16 q.1 q.2)[j]?:=zia qs i j q hi hj;have hlt:i*16+j<qs.length*16:=by omega
  refine⟨⟨⟨?_,.inr ⟨g,cap',(cur.toList.set (i*16+j) u).toArray,?_,h2,hset,?_,h5,?_,?_⟩⟩,?_⟩,?_,?_,?_⟩
  ·rw[zc5,List.length_set]
  ·rw[List.length_set,e2,e3]
  ·rw[List.length_set];exact h4
  ·simpa using h6
  ·rw[List.length_set,ztq qs i j q q' u hi hq hj,<-h7];rw[show 16*i+j=i*16+j by omega];simp[List.take_set]
  ·intro k r hk;have hbl:∀x,(D x/\x<wr.heap.size/\some x≠(Value.slice (some ⟨g,0,none⟩) n cap).ownBlock)->(wr.setCell ⟨g,i*16+j,none⟩ u).heap[x]?=wr.heap[x]?:=λx hx=>Below.heap_setCell _ _ _ _ (by
    show x≠g;intro e;exact hx.2.2 (by rw[e];rfl))
   have hsz:(wr.setCell ⟨g,i*16+j,none⟩ u).heap.size=wr.heap.size:=by simp[World.setCell]
   by_cases hki:k=i
   ·subst hki;rw[List.getElem?_set_self hil] at hk;injection hk with hk
    subst hk;rw[hn,hv];exact(h.kids k q hi).move (λx hx=>⟨hx.1,by rw[hsz];exact hx.2.1,hx.2.2⟩) hbl
   ·rw[List.getElem?_set_ne (λe=>hki e.symm)] at hk;exact(h.kids k r hk).move (λx hx=>⟨hx.1,by rw[hsz];exact hx.2.1,hx.2.2⟩) hbl
  ·have:=h.own.cells (g:=g) rfl (16*i+j);cases hc:(pt16 q.1 q.2)[j]? with
   | none=>rw[List.getElem?_eq_none_iff,zez] at hc;omega
   | some x=>
    have h9:=this x (by rw[hlc];exact hc);have ha:(⟨g,0,none⟩:Addr).add (16*i+j)=⟨g,i*16+j,none⟩:=by
     simp only[Addr.add];split
     ·rename_i h;simp<;>omega
     ·simp<;>omega
    rw[<-ha];exact h9
  ·exact za7 hx _
  ·intro B' hB' w0 hb;exact hb.setCell (p:=⟨g,i*16+j,none⟩) hB' _
def zei (q s:RPt):Bool:=decide (q.what=2)&&decide (q.c=s.c)&&q.op&&decide (0<q.left)&&zxt q s
def zc2 (l:List RPt)(s:RPt):Nat->Option Nat
 | 0=>none
 | k+1=>match l[k]? with
  | some q=>if zei q s=true then some k else zc2 l s k
  | none=>zc2 l s k
theorem zi6 (l:List RPt)(s:RPt)(k j:Nat)(h:zc2 l s k=some j):j<k/\∃q,l[j]?=some q/\zei q s=true:=by
 induction k with
 | zero=>simp[zc2] at h
 | succ k ih=>
  simp only[zc2] at h;split at h
  ·rename_i q hq;split at h
   ·rename_i ho;cases h;exact⟨by omega,q,hq,ho⟩
   ·obtain⟨h1,h2⟩:=ih h;exact⟨by omega,h2⟩
  ·obtain⟨h1,h2⟩:=ih h;exact⟨by omega,h2⟩
def zfl (q s:RPt):Nat:=if 2<=s.left/\2<=q.left then 2 else 1
def zhr (p:RPt)(n:Nat):RPt:={ p with left:=p.left-n }
def zd6 (nd:Rn):RPt:=⟨1,[],nd,0,0,0,false,false,false,false⟩
def zk7 (n:Nat)(l:List RPt):Rn:=.nd (if n=2 then 15 else 14) 0 [] [] 0 (ze3 l [])
def zmr (l:List RPt)(j i:Nat)(q s:RPt):List RPt:=l.take j++zhr q (zfl q s)::zd6 (zk7 (zfl q s) ((l.take i).drop (j+1)))::zhr s (zfl q s)::l.drop (i+1)
def zeu (l:List RPt)(i:Nat):List RPt × Nat:=match l[i]? with
 | none=>(l,i+1)
 | some s=>if s.what=2/\s.cl=true/\0<s.left then (match zc2 l s i with
   | none=>(l,i+1)
   | some j=>match l[j]? with
    | some q=>(zmr l j i q s,j+2)
    | none=>(l,i+1)) else (l,i+1)
inductive zeq:List RPt->Nat->List Rn->Prop
 | done (l:List RPt) (i:Nat) (h:l.length<=i):zeq l i (ze3 l [])
 | step (l:List RPt) (i:Nat) (ns:List Rn) (h:i<l.length) (hr:zeq (zeu l i).1 (zeu l i).2 ns):zeq l i ns
theorem zgc (l:List RPt)(i:Nat)(s:RPt)(hs:l[i]?=some s)(h:(if s.what=2/\s.cl=true/\0<s.left then zc2 l s i else none)=none):zeu l i=(l,i+1):=by
 unfold zeu;rw[hs];by_cases hc:s.what=2/\s.cl=true/\0<s.left
 ·rw[if_pos hc] at h;simp only[if_pos hc,h]
 ·simp only[if_neg hc]
theorem zj9 (l:List RPt)(i j:Nat)(s q:RPt)(hs:l[i]?=some s)(h:(if s.what=2/\s.cl=true/\0<s.left then zc2 l s i else none)=some j)(hq:l[j]?=some q):zeu l i=(zmr l j i q s,j+2):=by
 unfold zeu;rw[hs];by_cases hc:s.what=2/\s.cl=true/\0<s.left
 ·rw[if_pos hc] at h;simp only[if_pos hc,h,hq]
 ·rw[if_neg hc] at h;cases h
theorem z5h {α:Type}(l:List α)(j i:Nat)(q p : α)(hji:j<i)(hq:l[j]?=some q)(hp:l[i]?=some p):l=l.take j++q::((l.take i).drop (j+1)++p::l.drop (i+1)):=by
 obtain⟨h1,h2⟩:=Qb.1 hp;obtain⟨h3,h4⟩:=Qb.1 hq;have e1:l.drop i=p::l.drop (i+1):=by rw[Qm h1,h2]
 have h5:j<(l.take i).length:=by rw[Ql];omega
 have e2:(l.take i).drop j=q::(l.take i).drop (j+1):=by
  rw[Qm h5,List.getElem_take,h4]
 have e3:(l.take i).take j=l.take j:=by rw[List.take_take,Nat.min_eq_left (by omega)]
 have e4:l.take i++l.drop i=l:=List.take_append_drop i l;have e5:(l.take i).take j++(l.take i).drop j=l.take i:=List.take_append_drop j _;rw[e3,e2] at e5;rw[e1] at e4;have e6:(l.take j++q::(l.take i).drop (j+1))++p::l.drop (i+1)=l:=by rw[e5];exact e4
 rw[Qp,List.cons_append] at e6;exact e6.symm
theorem z4e {α:Type}(l:List α)(j i:Nat)(q p nd : α)(hq:l[j]?=some q)(hp:l[i]?=some p):(l.take (j+1)++[nd])++l.drop i=l.take j++q::nd::p::l.drop (i+1):=by
 obtain⟨h1,h2⟩:=Qb.1 hp;rw[List.take_add_one,hq,Qm h1,h2];simp
theorem put2 {α:Type}(l r:List α)(j:Nat)(q nd p q' p' : α)(hl:l.length=j):((l++q::nd::p::r).set j q').set (j+2) p'=l++q' :: nd::p' :: r:=by
 rw[List.set_append_right _ _ (by omega),hl,Nat.sub_self,List.set_cons_zero,List.set_append_right _ _ (by omega),hl,show j+2-j=2 by omega];rfl
def zjw (qs:List (RPt × Value))(j i:Nat)(q p:RPt × Value)(kv:Value):List (RPt × Value):=qs.take j++(zhr q.1 (zfl q.1 p.1),q.2)::(zd6 (zk7 (zfl q.1 p.1) (((qs.map Prod.fst).take i).drop (j+1))),kv)::(zhr p.1 (zfl q.1 p.1),p.2)::qs.drop (i+1)
theorem zye (qs:List (RPt × Value))(j i:Nat)(q p:RPt × Value)(kv:Value):(zjw qs j i q p kv).map Prod.fst=zmr (qs.map Prod.fst) j i q.1 p.1:=by
 unfold zjw zmr;simp[List.map_take,List.map_drop]
theorem zz0 (qs:List (RPt × Value))(j i:Nat)(q p:RPt × Value)(kv:Value)(hji:j<i)(hq:qs[j]?=some q)(hp:qs[i]?=some p)(h1:0<q.1.left)(h2:0<p.1.left):zc8 (zjw qs j i q p kv)+2<=zc8 qs/\(zjw qs j i q p kv).length=(j+2)+(qs.length-i):=by
 have hpl:=(Qb.1 hp).1;have e:zc8 qs=zc8 (qs.take j)+(q.1.s.length+q.1.left+(zc8 ((qs.take i).drop (j+1))+(p.1.s.length+p.1.left+zc8 (qs.drop (i+1))))):=by
  have:=z5h qs j i q p hji hq hp;exact(congrArg zc8 this).trans (by rw[zd7,zef,zd7,zef])
 have hn:zfl q.1 p.1=1\/zfl q.1 p.1=2:=by unfold zfl;split;exact .inr rfl;exact .inl rfl
 have hn2:zfl q.1 p.1<=q.1.left/\zfl q.1 p.1<=p.1.left:=by unfold zfl;split<;>omega
 constructor
 ·unfold zjw;rw[zd7,zef,zef,zef,e];simp only[zhr,zd6,Qi];omega
 ·unfold zjw;rw[Qa,Qd,Qd,Qd,Ql,Qf];omega
theorem zx6 (P:RPt->Prop)(qs:List (RPt × Value))(j i:Nat)(q p:RPt × Value)(kv:Value)(hq:qs[j]?=some q)(hp:qs[i]?=some p)(h:∀(k:Nat) (x:RPt × Value),qs[k]?=some x->P x.1)(hl:∀x n,P x->P (zhr x n))(hnd:∀nd,P (zd6 nd)):∀(k:Nat) (x:RPt × Value),(zjw qs j i q p kv)[k]?=some x->P x.1:=by
 have hm:∀x∈qs,P x.1:=λx hx=>by
  obtain⟨k,hk⟩:=List.getElem?_of_mem hx;exact h k x hk
 intro k x hx;have:=List.mem_of_getElem? hx;unfold zjw at this;rw[Qbh,List.mem_cons,List.mem_cons,List.mem_cons] at this;rcases this with h1|h1|h1|h1|h1
 ·exact hm x (List.mem_of_mem_take h1)
 ·rw[h1];exact hl _ _ (h j q hq)
 ·rw[h1];exact hnd _
 ·rw[h1];exact hl _ _ (h i p hp)
 ·exact hm x (List.mem_of_mem_drop h1)
end Go.Proofs.YtlojgpkajkedeaaGreatDoor
