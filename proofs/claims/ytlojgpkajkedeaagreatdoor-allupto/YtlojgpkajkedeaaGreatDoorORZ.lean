import Derived.Test.YtlojgpkajkedeaaGreatDoorORU
set_option maxHeartbeats 0
set_option maxRecDepth 100000
namespace Go.Proofs.YtlojgpkajkedeaaGreatDoor
open Go.RowKit Go.Proofs.Tryz
theorem zif (c:UInt8)(a:Sw):(convert 45 9 (.slice (some a) 1 1)).run prog (a.alloc (.cells #[.int .u8 (c.toNat:Int)] 5))=.ok (.string ⟨#[c]⟩) (a.alloc (.cells #[.int .u8 (c.toNat:Int)] 5)):=by
 refine run_convert_bytes_back _ 45 9 5 a 1 [c] underlying45 underlying5 underlying9 ?_;intro f d;have:f=0:=by simpa using d
 subst this;exact World.news_of_block (Ak _ _) 0 _ rfl
theorem IV (a b:List UInt8):S.B a++S.B b=S.B (a++b):=by
 unfold S.B;apply ByteArray.ext
 simp[ByteArray.data_append]
def Ma (t:List UInt8):List Rn:=if t=[]then []else [.nd 8 0 [] t 0 []]
def F8:List Af->List UInt8->List Rn
 |[],a=>Ma a
 |p::d,a=>if p.what=1 then Ma a++p.node::F8 d []else F8 d (a++p.s++List.replicate p.left p.c)
def Je (w:Sw)(a:So)(ps:List (Af×Value)):Prop:=ps=[]\/∃b g,a=some ⟨b,g,none⟩/\b<w.heap.size/\∀(i:Nat) (d:Af×Value),ps[i]?=some d->∀f h,(Dg d.1 d.2)[f]?=some h->w.cell? ⟨b,g+i*16+f,none⟩=some h
def Ct (ps:List (Af×Value)):Nat:=(ps.map (λa=>a.1.s.length+a.1.left)).sum
theorem Wx (ps:List (Af×Value))(i:Nat)(p:Af×Value)(a:ps[i]?=some p):Ct (ps.take (i+1))=Ct (ps.take i)+(p.1.s.length+p.1.left):=by
 unfold Ct;rw[Sv,a];simp
theorem Vd (ps:List (Af×Value))(i:Nat):Ct (ps.take i)<=Ct ps:=by
 have a:Ct ps=Ct (ps.take i)+Ct (ps.drop i):=by
  unfold Ct;rw[<-List.sum_append,<-Qv,Sy]
 omega
structure M7 (K:Nat->Prop)(w:Sw)(ns:List (Rn×Value))(a:So)(cp:Nat)(wr:Sw):Prop where
 own:wr.ownsRow w 118 7 (.slice a ns.length cp) ns.length (Gm ns)
 Ab:∀(j:Nat) (q:Rn×Value),ns[j]?=some q->Bv wr K q.2 q.1.Ab
 below:Below w w wr
theorem M7.after {g:Nat->Prop}{w wr m:Sw}{ns:List (Rn×Value)}{a:So}{k:Nat}(f:M7 g w ns a k wr)(o:∀d,g d->d<w)(h:Below wr wr m):M7 g w ns a k m:=by
 have l:=f.below.size;exact⟨V6 f.own (λd _ q=>h.block d q),λr s p=>(f.Ab r s p).move (λd j=>j) (λd j=>h.block d (Qh (o d j) l)),f.below.trans (h.mono l)⟩
theorem M7.step {h:Nat->Prop}{w wr w2:Sw}{o:Obj}{ns:List (Rn×Value)}{a:So}{q g cap1:Nat}{t:Rn}{kv:Value}(k:M7 h w ns a q wr)(x:∀d,h d->d<w)(C:Bv wr h kv t.Ab)
  (A:w2.ownsRow w 118 7 (.slice (some g) (ns.length+1) cap1) (ns.length+1) (Gm ns++Ko t kv)) (u:(wr.alloc o).grownBy w2 (Value.slice a ns.length q).ownBlock):M7 h w (ns++[(t,kv)]) (some g) cap1 w2:=by
 have r:=k.below.size;have v:=k.own.lt;have l:Below wr wr (wr.alloc o):=Sr.alloc (Qc _) o;have s:∀d,h d->w2.heap[d]?=wr.heap[d]?:=λd j=>by
  have D:=x d j;have E:=l.size;rw[u.block d Z (λe=>by have:=v d e.symm;omega),l.block d Z]
 refine⟨by rw[VN,Qa];exact A,?_,?_⟩
 ·intro m p f;by_cases y:m<ns.length
  ·rw[Qbd y]at f;exact(k.Ab m p f).move (λd j=>j) s
  rw[Qu Z]at f;have z:m-ns.length=0:=by have:=(Qb.1 f).1;simp at this;omega
  rw[z]at f;simp at f;subst f;exact C.move (λd j=>j) s
 exact Sqi (k.below.trans (l.mono r)) u (Qj r l.size) (λp f=>(v p f).1)
structure Pj (K:Nat->Prop)(w:Sw)(ps:List (Af×Value))(i:Nat)(t:List UInt8)(ns:List (Rn×Value))(a:So)(cp:Nat)(wr:Sw):Prop where
 spec:F8 (ps.map Prod.fst) []=ns.map Prod.fst++F8 ((ps.map Prod.fst).drop i) t
 small:t.length<=Ct (ps.take i)
 count:ns.length<=2*i
 own:M7 K w ns a cp wr
def Yv:List Af->List Rn
 |[]=>[]
 |p::a=>p.node::F8 a []
theorem MK (r:Nat->Prop)(a:So)(cr:Nat)(ps:List (Af×Value))(w:Sw)(ci:Je w a ps)(cg:∀(i:Nat) (p:Af×Value),ps[i]?=some p->Bv w r p.2 p.1.node.Ab)(b1:∀j,r j->j<w)(ds:ps.length<=4000000)(cj:Ct ps<=4000000):Calls prog 191 #[.slice a ps.length cr] w λe bz=>∃q,e=.returned q/\Bv bz (λj=>r j\/(w.heap.size<=j/\j<bz)) q (F8 (ps.map Prod.fst) [])/\Below w w bz:=by
 obtain⟨i0,cc,cd,ce,cf⟩:=info_parts Tryz.EW;have bq:=V ci;have c2:=V cg;have b2:=V b1;have c8:=V cj;clear ci cg b1 cj;go_enter func191,ntmps191;go_upto_region 4 with fail
 go_loopw [3,4,5,6] (λdb bx bv _ wr=>∃(i H:Nat) (l:List UInt8) (y:So) (z:Nat),i<=ps.length+1/\bv=.int .i64 i/\bx=.string (S.B l)/\db=.slice y H z/\l.length<=4000000/\U (∃d,H=d.length/\((i<=ps.length/\Pj r w ps i l d y z wr)\/(i=ps.length+1/\F8 (ps.map Prod.fst) []=d.map Prod.fst/\M7 r w d y z wr)))) (λ_ _ bv _ _=>ps.length+2-(intOf bv).toNat)
 case atStart=>exact⟨0,0,[],none,0,Z,rfl,rfl,rfl,Y,V ⟨[],rfl,.inl ⟨Qt _,⟨rfl,Qt _,Qt _,Sqg _ _ _ _,λg ck f=>by simp at f,Sr⟩⟩⟩⟩
 case round=>
  obtain⟨i,H,l,y,z,c0,rfl,rfl,rfl,dt,bp⟩:=hrel;by_cases az:i=ps.length+1
  ·subst az;have cu:¬((ps.length+1:Nat):Int)<=(ps.length:Int):=Z;go_wp2;go_ret;obtain⟨d,rfl,f|⟨_,D,u⟩⟩:=bp.q;·omega
   refine⟨_,rfl,?_,u.below⟩;rw[D];exact EG u.own (λcs cz=>.inr (u.own.lt cs cz)) (λg ck c6=>(u.Ab g ck c6).move (λj N=>.inl N) (λ_ _=>rfl))
  have dp:i<=ps.length:=Z;have cu:(i:Int)<=(ps.length:Int):=Z;have ac:U (∃d,H=d.length/\Pj r w ps i l d y z wr):=V (by
   obtain⟨d,t,f|⟨f,_⟩⟩:=bp.q;·exact⟨d,t,f.2⟩
   exact absurd f az)
  clear bp c0 az;by_cases aw:∃p,ps[i]?=some p/\p.1.what≠1
  ·obtain⟨p,m,W⟩:=aw;have a0:i<ps.length:=(Qb.1 m).1;obtain⟨b,k,rfl,aj,b9⟩:∃b k,a=some ⟨b,k,none⟩/\b<w.heap.size/\∀(i:Nat) (p:Af×Value),ps[i]?=some p->∀g x,(Dg p.1 p.2)[g]?=some x->w.cell? ⟨b,k+i*16+g,none⟩=some x:=by
    rcases bq.q with f|f
    ·subst f;simp at m
    exact f
   have o:Below w w wr:=by obtain⟨d,_,f⟩:=ac.q;exact f.own.below
   have v:∀h,Below w w h->∀g x,(Dg p.1 p.2)[g]?=some x->h.cell? ⟨b,k+i*16+g,none⟩=some x:=λh N g x bu=>(N.cell (p:=⟨b,k+i*16+g,none⟩) aj).trans (b9 i p m g x bu);have a1:wr.cell? ⟨b,k+i*16,none⟩=some (.int .i64 p.1.what):=v wr o 0 _ rfl;have cl:wr.cell? ⟨b,k+i*16+1,none⟩=some (.string (S.B p.1.s)):=v wr o 1 _ rfl;have cb:=V v;have dl:=V o;have ax:(i:Int)<(ps.length:Int):=Z;have b0:(0:Int)<=(i:Int):=Z;have du:((p.1.what:Int) == 1)=false:=by rw[Qe];exact W
   have bn:=Vd ps (i+1);rw[Wx ps i p m]at bn;have c7:l.length+(p.1.s.length+p.1.left)<=4000000:=by
    obtain⟨d,_,f⟩:=ac.q;have:=f.small;have:=c8.q;omega
   have ch:=V m;have c9:=V W;have b8:Op.stringOp .add (S.B l) (S.B p.1.s)=pure (.string (S.B (l++p.1.s))):=by
    rw[Nl _ _ (by rw[S.Bc,S.Bc];omega),IV]
   have c5:=V bn;clear m W b9 v o bn;have bt:U (∀h,(∃d,H=d.length/\Pj r w ps i l d y z h)->∃d,H=d.length/\Pj r w ps (i+1) (l++p.1.s++List.replicate p.1.left p.1.c) d y z h):=V (λh f=>by
    obtain⟨d,t,f⟩:=f;have hd:(ps.map Prod.fst).drop i=p.1::(ps.map Prod.fst).drop (i+1):=by
     have D:(ps.map Prod.fst)[i]?=some p.1:=(by rw[SA,ch.q];rfl);obtain⟨u,L⟩:=Qb.1 D;rw[Qm u,L]
    refine⟨d,t,?_,?_,by have:=f.count;omega,f.own⟩
    ·rw[f.spec,hd];simp only[F8];rw[if_neg c9.q]
    rw[Wx ps i p ch.q,Qa,Qa,List.length_replicate];have:=f.small;omega)
   have ai:∀j,r j->j<w:=b2.q;obtain⟨Q,bo⟩:=Qyy (p.1.left);obtain⟨K,bm⟩:=Qyy (p.1.c);obtain⟨ab,ay⟩:=Qyy (l++p.1.s);have dk:ab.length+Q<=4000000:=by rw[<-ay,Qa];omega
   rw[bo,bm,ay]at bt;rw[ay]at b8;have ct:U (∀h,(∃d,H=d.length/\Pj r w ps i l d y z h)->h.cell? ⟨b,k+i*16+11,none⟩=some (.int .i64 (Q:Nat))/\h.cell? ⟨b,k+i*16+9,none⟩=some (.int .u8 (K.toNat:Int))/\b<h.heap.size):=V (λh f=>by
    obtain⟨d,t,f⟩:=f;have a6:=f.own.below;exact⟨by rw[<-bo];exact cb.q h a6 11 _ rfl,by rw[<-bm];exact cb.q h a6 9 _ rfl,Qh aj a6.size⟩)
   have cw:=V ai;clear bo bm ay ai c5 c7;go_upto_region 9 with fail
   clear a1 cl b8;go_loopw [4,6] (λbx bw h=>∃E:Nat,E<=Q/\bw=.int .i64 E/\bx=.string (S.B (ab++List.replicate E K))/\U (∃d,H=d.length/\Pj r w ps i l d y z h)) (λ_ bw _=>Q-(intOf bw).toNat)
   case atStart=>exact⟨0,Qt _,rfl,Y,ac⟩
   case round=>
    obtain⟨E,dq,rfl,rfl,ae⟩:=hrel;obtain⟨dg,dj,b7⟩:=ct.q _ ae.q;by_cases dr:E<Q
    ·have cv:(E:Int)<(Q:Int):=Z;have dn:=zif K wr;have dm:Op.stringOp .add (S.B (ab++List.replicate E K)) ⟨#[K]⟩=pure (.string (S.B (ab++List.replicate (E+1) K))):=by
      rw[Nl _ _ (by rw[S.Bc,Qa,List.length_replicate];show ab.length+E+1<=_;omega)];rw[show (⟨#[K]⟩:Sb)=S.B [K] from rfl,IV,Qp,List.replicate_succ']
     have a2:U (∀s,∃d,H=d.length/\Pj r w ps i l d y z (wr.alloc s)):=V (λs=>by
      obtain⟨d,t,f⟩:=ae.q;exact⟨d,t,f.spec,f.small,f.count,f.own.after cw.q (Sr.alloc (Qc _) s)⟩)
     go_wp2;go_roundw
     case rel=>exact⟨E+1,Z,by go_num,rfl,V (a2.q _)⟩
     case measure=>exact Sj
    have c1:E=Q:=Z;subst c1;have cv:¬(E:Int)<(E:Int):=Z;have a2:=V (bt.q _ ae.q);clear bt;go_wp2;go_roundw
    case rel=>exact⟨i+1,H,_,y,z,Z,by go_num,rfl,rfl,by rw[Qa,List.length_replicate];omega,V (by obtain⟨d,t,f⟩:=a2.q;exact⟨d,t,.inl ⟨Z,f⟩⟩)⟩
    case measure=>exact Sj
  obtain⟨Tl,a4⟩:=Qyy (Yv ((ps.map Prod.fst).drop i));have br:U (∀x,F8 ((ps.map Prod.fst).drop i) x=Ma x++Tl):=V (λx=>by
   rw[<-a4];cases m:ps[i]? with
   |none=>
    rw[Qw (by rw[List.length_map];exact List.getElem?_eq_none_iff.1 m)];simp[F8,Yv]
   |some p=>
    have D:(ps.map Prod.fst)[i]?=some p.1:=(by rw[SA,m];rfl);obtain⟨u,L⟩:=Qb.1 D;rw[Qm u,L];simp only[F8,Yv];rw[if_pos (by
     cases Decidable.em (p.1.what=1) with
     |inl f=>exact f
     |inr f=>exact absurd ⟨p,m,f⟩ aw)])
  have ca:U (∀p,ps[i]?=some p->p.1.what=1/\∃b k,a=some ⟨b,k,none⟩/\b<w.heap.size/\∀h,Below w w h->∀g x,(Dg p.1 p.2)[g]?=some x->h.cell? ⟨b,k+i*16+g,none⟩=some x):=V (λp m=>by
   refine⟨by
    cases Decidable.em (p.1.what=1) with
    |inl f=>exact f
    |inr f=>exact absurd ⟨p,m,f⟩ aw,?_⟩
   rcases bq.q with f|⟨b,k,D,u,L⟩
   ·subst f;simp at m
   exact⟨b,k,D,u,λh N g x bu=>(N.cell (p:=⟨b,k+i*16+g,none⟩) u).trans (L i p m g x bu)⟩)
  have b5:=V a4;clear a4 aw bq;go_upto_region 6 with fail
  go_cut [24] (λdc h=>dc=.bool false/\wr=h)
  case first=>
   by_cases a0:i<ps.length
   ·obtain⟨p,m⟩:∃p,ps[i]?=some p:=⟨ps[i],Qg a0⟩;obtain⟨W,b,k,rfl,aj,v⟩:=ca.q p m;have o:Below w w wr:=(by obtain⟨d,_,f⟩:=ac.q;exact f.own.below);have a1:wr.cell? ⟨b,k+i*16,none⟩=some (.int .i64 p.1.what):=v wr o 0 _ rfl;rw[W]at a1;have b7:b<wr:=Qh aj o.size;have ax:(i:Int)<(ps.length:Int):=Z;have b0:(0:Int)<=(i:Int):=Z;clear m W v o;go_wp2;go_meet;exact⟨rfl,rfl⟩
   have ax:¬(i:Int)<(ps.length:Int):=Z;go_wp2;go_meet;exact⟨rfl,rfl⟩
  case rest=>
  obtain⟨rfl,rfl⟩:=hcut;have ai:U (∀j,r j->j<w):=b2;go_upto_region 12 with fail
  go_cut [51] (λdf h=>df=.bool (decide (l≠[]))/\wr=h)
  case first=>
   by_cases M:l=[]
   ·subst M;rw[show S.B ([]:List UInt8)=⟨#[]⟩ from rfl];go_wp2;go_meet;exact⟨rfl,rfl⟩
   have ak:0<(S.B l).size:=by rw[S.Bc];exact Qbf.2 M
   have b6:=S.Np _ ak;have b4:=S.K9 _ ak;have hd:U (decide (l≠[])=true):=V (by simpa using M);go_wp2;go_meet;exact⟨by rw[hd.q],rfl⟩
  case rest=>
  obtain⟨rfl,rfl⟩:=hcut;go_upto_if 51 with fail
  go_cut [3,4] (λdd de h=>∃(ap:Nat) (R:So) (T:Nat),de=.string ⟨#[]⟩/\dd=.slice R ap T/\U (∃d,ap=d.length/\F8 (ps.map Prod.fst) []=d.map Prod.fst++Tl/\d.length<=2*i+1/\M7 r w d R T h))
  case first=>
   by_cases M:l=[]
   ·subst M;rw[show S.B ([]:List UInt8)=⟨#[]⟩ from rfl,show decide (([]:List UInt8)≠[])=false from rfl];go_wp2;go_meet;refine⟨H,y,z,rfl,rfl,V ?_⟩;obtain⟨d,t,f⟩:=ac.q;exact⟨d,t,by rw[f.spec,br.q];rfl,by have:=f.count;omega,f.own⟩
   have ak:0<(S.B l).size:=by rw[S.Bc];exact Qbf.2 M
   have b6:=S.Np _ ak;have b4:=S.K9 _ ak;obtain⟨aa,a3⟩:=Qyy (S.B l);rw[a3]at b6 b4 ak ⊢;rw[show decide (l≠[])=true by simpa using M];obtain⟨d,c3,G⟩:=ac.q;subst c3;have bl:U (∀s,(wr.alloc s).ownsRow w 118 7 (.slice y d.length z) d.length (Gm d)):=V (λs=>G.own.own.alloc s);have bc:U (∀g q,([O,(8:Int),O,(),aa,O,Sx]:List Value)[g]?=some q->(wr.alloc (.cells #[O,(8:Int),O,(),aa,O,Sx] 118)).cell? ((wr:Addr).add g)=some q):=V (λg q a8=>World.news_of_block (Ak _ _) g q (by exact a8));have bk:U (∀q∈([O,(8:Int),O,(),aa,O,Sx]:List Value),q.oneCell'=true):=V (by
    intro q ao;simp at ao;rcases ao with rfl|rfl|rfl|rfl|rfl|rfl|rfl<;>rfl)
   have bs:U (∀s C A F,F.ownsRow w 118 7 (.slice (some ⟨C,0,none⟩) (d.length+1) A) (d.length+1) (Gm d++[.int .i64 0,.int .i64 8,.int .i64 0,.string ⟨#[]⟩,.string aa,.int .i64 0,.slice none 0 0])->(wr.alloc s).grownBy F (Value.slice y d.length z).ownBlock->∃P,d.length+1=P.length/\F8 (ps.map Prod.fst) []=P.map Prod.fst++Tl/\P.length<=2*i+1/\M7 r w P (some ⟨C,0,none⟩) A F):=V (λs C A F bj a7=>by
    refine⟨d++[(.nd 8 0 [] l 0 [],.slice none 0 0)],Y,?_,by have:=G.count;simp;omega,?_⟩
    ·rw[G.spec,br.q,Qv,Qp];unfold Ma;rw[if_neg M];rfl
    refine G.own.step ai.q .nil ?_ a7;subst a3;exact bj)
   have da:w<=wr.heap.size:=G.own.below.size;have cy:d.length+1<=8000001:=by have:=G.count;omega
   clear G a3 M;go_wp2_with (at_builtin;refine wpList_append_lies _ I _ _ 80 I w 118 i0 (.agg #[O,O,O,(),(),O,Sx]) 7 88 underlying80 cc cd ce cf I Z (.slice y d.length z) d.length (Gm d) I (bl.q _) wr 1 1 [.int .i64 0,.int .i64 8,.int .i64 0,.string ⟨#[]⟩,.string aa,.int .i64 0,.slice none 0 0] I I bc.q bk.q Z (by unfold maxLen;omega) Z (by simp;omega) ((wr:Nat)+1) Y ?_)
   intro C A F an am a5 bb;have al:=V (bs.q _ C A F an am);clear an am a5 bb;go_wp2;go_meet;exact⟨d.length+1,some ⟨C,0,none⟩,A,rfl,rfl,al⟩
  case rest=>
  obtain⟨ap,R,T,rfl,rfl,ae⟩:=hcut;clear ac br;by_cases a0:i<ps.length
  ·obtain⟨p,m⟩:∃p,ps[i]?=some p:=⟨ps[i],Qg a0⟩;obtain⟨W,b,k,rfl,aj,v⟩:=ca.q p m;obtain⟨d,c4,b3,cx,G⟩:=ae.q;subst c4;have a9:=c2.q i p m;obtain⟨af,ah,ag,ba⟩:=a9.form;have o:=G.below;have dh:wc.cell? ⟨b,k+i*16+2,none⟩=some (.int .i64 0):=v wc o 2 _ rfl;have cm:wc.cell? ⟨b,k+i*16+3,none⟩=some (.int .i64 p.1.node.kind):=v wc o 3 _ rfl;have cn:wc.cell? ⟨b,k+i*16+4,none⟩=some (.int .i64 p.1.node.n):=v wc o 4 _ rfl;have co:wc.cell? ⟨b,k+i*16+5,none⟩=some (.string (S.B p.1.node.info)):=v wc o 5 _ rfl;have cp:wc.cell? ⟨b,k+i*16+6,none⟩=some (.string (S.B p.1.node.text)):=v wc o 6 _ rfl;have cq:wc.cell? ⟨b,k+i*16+7,none⟩=some (.int .i64 p.1.node.line):=v wc o 7 _ rfl;have di:wc.cell? ⟨b,k+i*16+8,none⟩=some (.slice af ah ag):=by rw[<-ba];exact v wc o 8 _ rfl
   obtain⟨ar,bf⟩:∃j,p.1.node.kind=j:=⟨_,rfl⟩;obtain⟨au,bh⟩:∃j,p.1.node.n=j:=⟨_,rfl⟩;obtain⟨aq,bd⟩:∃j,S.B p.1.node.info=j:=⟨_,rfl⟩;obtain⟨av,bi⟩:∃j,S.B p.1.node.text=j:=⟨_,rfl⟩;obtain⟨nl,bg⟩:∃j,p.1.node.line=j:=⟨_,rfl⟩;rw[bf]at cm;rw[bh]at cn;rw[bd]at co;rw[bi]at cp;rw[bg]at cq;have b7:b<wc:=Qh aj o.size;have da:w<=wc.heap.size:=o.size;have ax:(i:Int)<(ps.length:Int):=Z;have b0:(0:Int)<=(i:Int):=Z;have cy:d.length+1<=8000003:=Z;have bl:U (∀s,(wc.alloc s).ownsRow w 118 7 (.slice R d.length T) d.length (Gm d)):=V (λs=>G.own.alloc s);have bc:U (∀g q,([O,ar,au,aq,av,nl,.slice af ah ag]:List Value)[g]?=some q->(wc.alloc (.cells #[O,ar,au,aq,av,nl,.slice af ah ag] 118)).cell? ((wc:Addr).add g)=some q):=V (λg q a8=>World.news_of_block (Ak _ _) g q (by exact a8));have bk:U (∀q∈([O,ar,au,aq,av,nl,.slice af ah ag]:List Value),q.oneCell'=true):=V (by
    intro q ao;simp at ao;rcases ao with rfl|rfl|rfl|rfl|rfl|rfl|rfl<;>rfl)
   have bs:U (∀s C A F,F.ownsRow w 118 7 (.slice (some ⟨C,0,none⟩) (d.length+1) A) (d.length+1) (Gm d++[.int .i64 0,.int .i64 ar,.int .i64 au,.string aq,.string av,.int .i64 nl,.slice af ah ag])->(wc.alloc s).grownBy F (Value.slice R d.length T).ownBlock->∃P,d.length+1=P.length/\Pj r w ps (i+1) [] P (some ⟨C,0,none⟩) A F):=V (λs C A F bj a7=>by
    refine⟨d++[(p.1.node,.slice af ah ag)],Y,?_,Qt _,by simp;omega,?_⟩
    ·rw[b3,<-b5.q,Qv,Qp];have D:(ps.map Prod.fst)[i]?=some p.1:=(by rw[SA,m];rfl);obtain⟨u,L⟩:=Qb.1 D;rw[Qm u,L];rfl
    refine G.step ai.q ?_ ?_ a7
    ·rw[<-ba];exact a9.move (λj N=>N) (λj N=>o.block j (ai.q j N))
    subst bf bh bd bi bg;exact bj)
   clear m W v a9 ba b3 cx G o bf bh bd bi bg;go_wp2_with (at_builtin;refine wpList_append_lies _ I _ _ 80 I w 118 i0 (.agg #[O,O,O,(),(),O,Sx]) 7 88 underlying80 cc cd ce cf I Z (.slice R d.length T) d.length (Gm d) I (bl.q _) wc 1 1 [.int .i64 0,.int .i64 ar,.int .i64 au,.string aq,.string av,.int .i64 nl,.slice af ah ag] I I bc.q bk.q Z (by unfold maxLen;omega) Z (by simp;omega) ((wc:Nat)+1) Y ?_)
   intro C A F an am a5 bb;have al:=V (bs.q _ C A F an am);clear an am a5 bb;go_wp2;go_roundw
   case rel=>exact⟨i+1,d.length+1,[],some ⟨C,0,none⟩,A,Z,by go_num,rfl,rfl,Y,V (by obtain⟨P,t,f⟩:=al.q;exact⟨P,t,.inl ⟨Z,f⟩⟩)⟩
   case measure=>exact Sj
  have az:i=ps.length:=Z;have ax:¬(i:Int)<(ps.length:Int):=Z;have al:U (∃d,ap=d.length/\F8 (ps.map Prod.fst) []=d.map Prod.fst/\M7 r w d R T wc):=V (by
   obtain⟨d,t,D,u,L⟩:=ae.q;refine⟨d,t,?_,L⟩;rw[D,<-b5.q,Qw (by rw[List.length_map];omega)];simp[Yv])
  clear ae;go_wp2;go_roundw
  case rel=>exact⟨i+1,ap,[],R,T,Z,by go_num,rfl,rfl,Y,V (by obtain⟨d,t,D,u⟩:=al.q;exact⟨d,t,.inr ⟨Z,D,u⟩⟩)⟩
  case measure=>exact Sj
theorem Tryz.DT:(prog.info? 196).map (λi=>(i.zero,i.size,i.bytes))=some (some (.agg #[O,(),O,O,O,(),(),O,Sx,.int .u8 0,O,O,false,false,false,false]),16,144):=Sk
def Ba (ps:List (Af×Value)):List Value:=(ps.map (λa=>Dg a.1 a.2)).flatten
theorem ME (a b:List (Af×Value)):Ba (a++b)=Ba a++Ba b:=by simp[Ba]
theorem Ug (p:Af×Value)(r:List (Af×Value)):Ba (p::r)=Dg p.1 p.2++Ba r:=by simp[Ba]
theorem O5 (p:Af)(v:Value):(Dg p v).length=16:=rfl
theorem Pz (ps:List (Af×Value)):(Ba ps).length=ps.length*16:=by
 induction ps with
 |nil=>rfl
 |cons d f a=>rw[Ug,Qa,O5,a,Qd];omega
theorem FZ (ps:List (Af×Value))(i d:Nat)(p:Af×Value)(a:ps[i]?=some p)(g:d<16):(Ba ps)[16*i+d]?=(Dg p.1 p.2)[d]?:=by
 induction ps generalizing i with
 |nil=>simp at a
 |cons h j f=>
  rw[Ug];cases i with
  |zero=>
   simp at a;subst a;rw[Qbd (by rw[O5];omega)];simp
  |succ i=>
   rw[Qu (by rw[O5];omega),O5,<-f i (by simpa using a)];congr 1;omega
theorem zgi (ps:List (Af×Value))(i d:Nat)(p f:Af×Value)(g:Value)(a:ps[i]?=some p)(h:Dg f.1 f.2=(Dg p.1 p.2).set d g)(k:d<16):Ba (ps.set i f)=(Ba ps).set (16*i+d) g:=by
 induction ps generalizing i with
 |nil=>simp at a
 |cons m l j=>
  cases i with
  |zero=>
   simp at a;subst a;rw[List.set_cons_zero,Ug,Ug,h,List.set_append_left _ _ (by rw[O5];omega)];simp
  |succ i=>
   rw[List.set_cons_succ,Ug,Ug,j i (by simpa using a),SG _ _ (by rw[O5];omega),O5];congr 2;omega
theorem Rt (a b:List (Af×Value)):Ct (a++b)=Ct a+Ct b:=by simp[Ct]
theorem Ry (p:Af×Value)(r:List (Af×Value)):Ct (p::r)=p.1.s.length+p.1.left+Ct r:=by simp[Ct]
theorem Je.news {w:Sw}{b f:Nat}{ps:List (Af×Value)}(o:∀(i:Nat) (h:Af×Value),ps[i]?=some h->∀l d,(Dg h.1 h.2)[l]?=some d->w.cell? (b (f+i*16+l))=some d)(a:Nat)(d:Value)(g:(Ba ps)[a]?=some d):w.cell? ((b f:Addr).add a)=some d:=by
 have q:=(Qb.1 g).1;rw[Pz]at q;have p:a / 16<ps.length:=Z;have k:ps[a / 16]?=some ps[a / 16]:=Qg p;have j:=FZ ps (a / 16) (a % 16) _ k Z;rw[show 16*(a / 16)+a % 16=a by omega,g]at j;have:=o _ _ k _ _ j.symm;have m:(b f:Addr).add a=⟨b,f+a / 16*16+a % 16,none⟩:=by
  simp only[Addr.add];split;·rename_i g;simp<;>omega
  simp<;>omega
 rw[m];exact this
theorem Je.below {w k:Sw}{a:So}{ps:List (Af×Value)}(d:Je w a ps)(g:Below w w k):Je k a ps:=by
 rcases d with d|⟨b,j,l,f,m⟩
 ·exact .inl d
 exact .inr ⟨b,j,l,Qh f g.size,λi p o h r q=>(g.cell (p:=⟨b,j+i*16+h,none⟩) f).trans (m i p o h r q)⟩
structure Dt (D:Nat->Prop)(B:Nat)(qs:List (Af×Value))(v:Value)(wr:Sw):Prop where
 own:wr.ownsRow B 196 16 v qs.length (Ba qs)
 Ab:∀(i:Nat) (q:Af×Value),qs[i]?=some q->Bv wr (λx=>D x/\x<wr.heap.size/\some x≠v.ownBlock) q.2 q.1.node.Ab
theorem Dt.nil (a:Nat->Prop)(B:Nat)(w:Sw):Dt a B [] (.slice none 0 0) w:=⟨Sqg _ _ _ _,λi f d=>by simp at d⟩
theorem Dt.row {o:Nat->Prop}{B:Nat}{h:List (Af×Value)}{a:So}{n p:Nat}{wr:Sw}(f:Dt o B h (.slice a n p) wr):Je wr a h:=by
 rcases f.own.2 with ⟨j,k⟩|⟨g,x,y,j,k,q,z,A,C,D⟩
 ·exact .inl (List.eq_nil_of_length_eq_zero k)
 injection j with e1 e2 e3
 subst e1;refine .inr ⟨g,0,rfl,(Qq.1 q).1,λi u s d v l=>?_⟩;have t:d<16:=by have:=(Qb.1 l).1;rw[O5]at this;exact this
 have m:=FZ h i d u s t;rw[l]at m;have:=f.own.cells (g:=g) rfl (16*i+d) v m;have r:(g:Addr).add (16*i+d)=⟨g,0+i*16+d,none⟩:=by
  simp only[Addr.add];split;·rename_i f;simp<;>omega
  simp<;>omega
 rw[<-r];exact this
theorem Dt.after {g:Nat->Prop}{B:Nat}{j:List (Af×Value)}{v:Value}{wr k:Sw}(h:Dt g B j v wr)(d:Below wr wr k):Dt g B j v k:=
 ⟨V6 h.own (λf _ m=>d.block f m),λi o l=>(h.Ab i o l).move (λ_ a=>⟨a.1,Qh a.2.1 d.size,a.2.2⟩) (λf a=>d.block f a.2.1)⟩
theorem Dt.many {h:Nat->Prop}{B:Nat}{d rs:List (Af×Value)}{v:Value}{f w2:Sw}{g cap1:Nat}(r:Dt h B d v f)(x:∀(i:Nat) (j:Af×Value),rs[i]?=some j->Bv f (λa=>h a/\a<f.heap.size/\some a≠v.ownBlock) j.2 j.1.node.Ab)
  (u:w2.ownsRow B 196 16 (.slice (some g) (d.length+rs.length) cap1) (d.length+rs.length) (Ba d++Ba rs)) (o:f.grownBy w2 v.ownBlock) (s:v.ownBlock=some g\/f.heap.size<=g):Dt h B (d++rs) (.slice (some g) (d++rs).length cap1) w2:=by
 have y:=o.size;have p:∀a,(h a/\a<f.heap.size/\some a≠v.ownBlock)->(h a/\a<w2.heap.size/\some a≠(Value.slice (some g) (d++rs).length cap1).ownBlock):=λa k=>⟨k.1,Z,by
  show some a≠some g;rcases s with e|e
  ·rw[<-e];exact k.2.2
  intro q;cases q;omega⟩
 have m:∀a,(h a/\a<f.heap.size/\some a≠v.ownBlock)->w2.heap[a]?=f.heap[a]?:=λa k=>o.block a k.2.1 k.2.2;refine⟨by rw[ME,Qa];exact u,λi j l=>?_⟩;by_cases t:i<d.length
 ·rw[Qbd t]at l;exact(r.Ab i j l).move p m
 rw[Qu Z]at l;exact(x _ j l).move p m
theorem Dt.set {s:Nat->Prop}{B:Nat}{k:List (Af×Value)}{g n t:Nat}{wr:Sw}(o:Dt s B k (.slice (some g) n t) wr)(i a:Nat)(d m:Af×Value)(j:Value)(r:k[i]?=some d)(D:a<16)(ac:Dg m.1 m.2=(Dg d.1 d.2).set a j)(ab:m.1.node=d.1.node)(af:m.2=d.2):Dt s B (k.set i m) (.slice (some g) n t) (wr.setCell (g (i*16+a)) j)/\wr.cell? (g (i*16+a))=(Dg d.1 d.2)[a]?/\wr.frozen? (g (i*16+a))=false/\(∀q,q<=g->∀x,Below q x wr->Below q x (wr.setCell (g (i*16+a)) j)):=by
 have W:=(Qb.1 r).1;rcases o.own.2 with ⟨u,z⟩|⟨ah,G,y,u,z,H,K,L,M,N⟩
 ·cases u
 injection u with e1 e2 e3
 injection e1 with e1
 injection e1 with e1
 subst e1;have f:wr.heap[g]?=some (.cells y.toList.toArray 196 (0,0)):=H;have ae:=Aj f (i*16+a) j;have aa:(Ba k)[16*i+a]?=(Dg d.1 d.2)[a]?:=FZ k i a d r D;have ai:i*16+a<k.length*16:=Z;refine⟨⟨⟨?_,.inr ⟨g,G,(y.toList.set (i*16+a) j).toArray,?_,z,ae,?_,L,?_,?_⟩⟩,?_⟩,?_,?_,?_⟩;·rw[Pz,List.length_set]
 ·rw[List.length_set,e2,e3]
 ·rw[List.length_set];exact K
 ·simpa using M
 ·rw[List.length_set,zgi k i a d m j r ac D,<-N];rw[show 16*i+a=i*16+a by omega];simp[List.take_set]
 ·intro v ag l;have A:∀h,(s h/\h<wr.heap.size/\some h≠(Value.slice (some g) n t).ownBlock)->(wr.setCell (g (i*16+a)) j).heap[h]?=wr.heap[h]?:=λh f=>Below.heap_setCell _ _ _ _ (by
   show h≠g;intro e;exact f.2.2 (by rw[e];rfl))
  have F:(wr.setCell (g (i*16+a)) j).heap.size=wr.heap.size:=by simp[World.setCell]
  by_cases E:v=i
  ·subst E;rw[List.getElem?_set_self W]at l;injection l with l
   subst l;rw[ab,af];exact(o.Ab v d r).move (λh f=>⟨f.1,by rw[F];exact f.2.1,f.2.2⟩) A
  rw[List.getElem?_set_ne (λe=>E e.symm)]at l;exact(o.Ab v ag l).move (λh f=>⟨f.1,by rw[F];exact f.2.1,f.2.2⟩) A
 ·have:=o.own.cells (g:=g) rfl (16*i+a);cases C:(Dg d.1 d.2)[a]? with
  |none=>rw[List.getElem?_eq_none_iff,O5]at C;omega
  |some h=>
   have P:=this h (by rw[aa];exact C);have R:(g:Addr).add (16*i+a)=⟨g,i*16+a,none⟩:=by
    simp only[Addr.add];split;·rename_i o;simp<;>omega
    simp<;>omega
   rw[<-R];exact P
 ·exact Av f _
 intro q Q x T;exact T.setCell (p:=⟨g,i*16+a,none⟩) Q _
def Ml (a s:Af):Bool:=decide (a.what=2)&&decide (a.c=s.c)&&a.op&&decide (0<a.left)&&Va a s
def Hz (l:List Af)(s:Af):Nat->Option Nat
 |0=>none
 |k+1=>match l[k]? with
  |some a=>if Ml a s=true then some k else Hz l s k
  |none=>Hz l s k
theorem Xk (l:List Af)(s:Af)(k g:Nat)(a:Hz l s k=some g):g<k/\∃d,l[g]?=some d/\Ml d s=true:=by
 induction k with
 |zero=>simp[Hz]at a
 |succ k h=>
  simp only[Hz]at a;split at a
  ·rename_i d o;split at a
   ·rename_i m;cases a;exact⟨Z,d,o,m⟩
   obtain⟨j,f⟩:=h a;exact⟨Z,f⟩
  obtain⟨j,f⟩:=h a;exact⟨Z,f⟩
def E9 (a s:Af):Nat:=if 2<=s.left/\2<=a.left then 2 else 1
def Ia (p:Af)(n:Nat):Af:={ p with left:=p.left-n }
def C8 (a:Rn):Af:=⟨1,[],a,0,0,0,false,false,false,false⟩
def Ju (n:Nat)(l:List Af):Rn:=.nd (if n=2 then 15 else 14) 0 [] [] 0 (F8 l [])
def Lh (l:List Af)(d i:Nat)(a s:Af):List Af:=l.take d++Ia a (E9 a s)::C8 (Ju (E9 a s) ((l.take i).drop (d+1)))::Ia s (E9 a s)::l.drop (i+1)
def K8 (l:List Af)(i:Nat):List Af×Nat:=match l[i]? with
 |none=>(l,i+1)
 |some a=>if a.what=2/\a.cl=true/\0<a.left then (match Hz l a i with
   |none=>(l,i+1)
   |some d=>match l[d]? with
    |some f=>(Lh l d i f a,d+2)
    |none=>(l,i+1))else (l,i+1)
inductive Ii:List Af->Nat->List Rn->Prop
 |done (l:List Af) (i:Nat) (h:l.length<=i):Ii l i (F8 l [])
 |step (l:List Af) (i:Nat) (ns:List Rn) (h:i<l.length) (hr:Ii (K8 l i).1 (K8 l i).2 ns):Ii l i ns
theorem BM (l:List Af)(i:Nat)(s:Af)(f:l[i]?=some s)(d:(if s.what=2/\s.cl=true/\0<s.left then Hz l s i else none)=none):K8 l i=(l,i+1):=by
 unfold K8;rw[f];by_cases a:s.what=2/\s.cl=true/\0<s.left
 ·rw[if_pos a]at d;simp only[if_pos a,d]
 simp only[if_neg a]
theorem WE (l:List Af)(i d:Nat)(s g:Af)(j:l[i]?=some s)(a:(if s.what=2/\s.cl=true/\0<s.left then Hz l s i else none)=some d)(h:l[d]?=some g):K8 l i=(Lh l d i g s,d+2):=by
 unfold K8;rw[j];by_cases f:s.what=2/\s.cl=true/\0<s.left
 ·rw[if_pos f]at a;simp only[if_pos f,a,h]
 rw[if_neg f]at a;cases a
theorem IZ {α:Type}(l:List α)(a i:Nat)(d p : α)(x:a<i)(u:l[a]?=some d)(t:l[i]?=some p):l=l.take a++d::((l.take i).drop (a+1)++p::l.drop (i+1)):=by
 obtain⟨o,q⟩:=Qb.1 t;obtain⟨v,r⟩:=Qb.1 u;have j:l.drop i=p::l.drop (i+1):=by rw[Qm o,q]
 have s:a<(l.take i).length:=by rw[Ql];omega
 have k:(l.take i).drop a=d::(l.take i).drop (a+1):=by
  rw[Qm s,List.getElem_take,r]
 have m:(l.take i).take a=l.take a:=by rw[List.take_take,SI Z]
 have f:l.take i++l.drop i=l:=Sy i l;have g:(l.take i).take a++(l.take i).drop a=l.take i:=Sy a _;rw[m,k]at g;rw[j]at f;have h:(l.take a++d::(l.take i).drop (a+1))++p::l.drop (i+1)=l:=by rw[g];exact f
 rw[Qp,SB]at h;exact h.symm
theorem zf6 {α:Type}(l:List α)(a i:Nat)(f p d : α)(k:l[a]?=some f)(j:l[i]?=some p):(l.take (a+1)++[d])++l.drop i=l.take a++f::d::p::l.drop (i+1):=by
 obtain⟨g,h⟩:=Qb.1 j;rw[Sv,k,Qm g,h];simp
theorem zd0 {α:Type}(l r:List α)(a:Nat)(j f p h g : α)(d:l.length=a):((l++j::f::p::r).set a h).set (a+2) g=l++h::f::g::r:=by
 rw[SG _ _ Z,d,Nat.sub_self,List.set_cons_zero,SG _ _ Z,d,show a+2-a=2 by omega];rfl
def Lg (d:List (Af×Value))(f i:Nat)(a p:Af×Value)(kv:Value):List (Af×Value):=d.take f++(Ia a.1 (E9 a.1 p.1),a.2)::(C8 (Ju (E9 a.1 p.1) (((d.map Prod.fst).take i).drop (f+1))),kv)::(Ia p.1 (E9 a.1 p.1),p.2)::d.drop (i+1)
theorem zm3 (f:List (Af×Value))(a i:Nat)(d p:Af×Value)(kv:Value):(Lg f a i d p kv).map Prod.fst=Lh (f.map Prod.fst) a i d.1 p.1:=by
 unfold Lg Lh;simp[List.map_take,List.map_drop]
theorem zkf (d:List (Af×Value))(f i:Nat)(a p:Af×Value)(kv:Value)(h:f<i)(j:d[f]?=some a)(g:d[i]?=some p)(k:0<a.1.left)(l:0<p.1.left):Ct (Lg d f i a p kv)+2<=Ct d/\(Lg d f i a p kv).length=(f+2)+(d.length-i):=by
 have q:=(Qb.1 g).1;have e:Ct d=Ct (d.take f)+(a.1.s.length+a.1.left+(Ct ((d.take i).drop (f+1))+(p.1.s.length+p.1.left+Ct (d.drop (i+1))))):=by
  have:=IZ d f i a p h j g;exact(congrArg Ct this).trans (by rw[Rt,Ry,Rt,Ry])
 have m:E9 a.1 p.1=1\/E9 a.1 p.1=2:=by unfold E9;split;exact .inr rfl;exact .inl rfl
 have o:E9 a.1 p.1<=a.1.left/\E9 a.1 p.1<=p.1.left:=by unfold E9;split<;>omega
 constructor
 ·unfold Lg;rw[Rt,Ry,Ry,Ry,e];simp only[Ia,C8,Qi];omega
 unfold Lg;rw[Qa,Qd,Qd,Qd,Ql,Qf];omega
theorem zat (P:Af->Prop)(g:List (Af×Value))(k i:Nat)(l p:Af×Value)(kv:Value)(t:g[k]?=some l)(s:g[i]?=some p)(h:∀(f:Nat) (a:Af×Value),g[f]?=some a->P a.1)(m:∀a n,P a->P (Ia a n))(r:∀u,P (C8 u)):∀(f:Nat) (a:Af×Value),(Lg g k i l p kv)[f]?=some a->P a.1:=by
 have o:∀a∈g,P a.1:=λa j=>by
  obtain⟨f,q⟩:=List.getElem?_of_mem j;exact h f a q
 intro f a j;have:=SN j;unfold Lg at this;rw[Qbh,Sc,Sc,Sc]at this;rcases this with d|d|d|d|d
 ·exact o a (List.mem_of_mem_take d)
 ·rw[d];exact m _ _ (h k l t)
 ·rw[d];exact r _
 ·rw[d];exact m _ _ (h i p s)
 exact o a (List.mem_of_mem_drop d)
