import Derived.Test.YtlojgpkajkedeaaGreatDoorOE1
import Derived.Test.YtlojgpkajkedeaaGreatDoorOW17
import Derived.Deep.QuietTactic
import Derived.BigQuiet
import Derived.Deep.RegionHeld3
import Derived.Deep.AppendLies
set_option maxHeartbeats 0
set_option maxRecDepth 100000
namespace Go.Proofs.YtlojgpkajkedeaaGreatDoor
open Go.RowKit Go.Proofs.Tryz
theorem Tryz.Yf:(prog.info? 36).map (λi=>(i.zero,i.size,i.bytes))=some (some (.agg #[O,O,O,(),()]),5,56):=Sk
structure Nd where
 depth:Int
 kind:Int
 n:Int
 info:ByteArray
 text:ByteArray
def Cg (a:Nd):List Value:=[.int .i64 a.depth,.int .i64 a.kind,.int .i64 a.n,.string a.info,.string a.text]
def Ck (l:List Nd):List Value:=(l.map Cg).flatten
theorem DW (l:List Nd)(a:Nd):Ck (l++[a])=Ck l++Cg a:=by simp[Ck]
def Bl (B:Nat)(a:So)(d:Nat)(l:List Nd)(w:Sw):Prop:=w.ownsRow B 36 5 (.slice a l.length d) l.length (Ck l)
theorem Bl.alloc {B:Nat}{a:So}{d:Nat}{l:List Nd}{w:Sw}(g:Bl B a d l w)(f:Obj):Bl B a d l (w.alloc f):=World.ownsRow.alloc g f
theorem below_grown {w w':Sw}(a:Below w w w'):w.grownBy w' none:=⟨a.os,a.tape,a.output,a.size,λf d _=>a.block f d⟩
theorem Bl.below {B:Nat}{a:So}{d:Nat}{l:List Nd}{w w':Sw}(f:Bl B a d l w)(g:Below w w w'):Bl B a d l w':=
 World.ownsRow.kept f (below_grown g) (by
  cases f:(Value.slice a l.length d).ownBlock with
  |none=>exact .inl rfl
  |some h=>exact .inr Y)
theorem Bl.nil (B:Nat)(w:Sw):Bl B none 0 [] w:=Sqg _ _ _ _
def Laid (B:Nat)(own:Option Nat)(l:List Nd)(w:Sw)(e:Ending)(w':Sw):Prop:=∃a d,e=.returned (.slice a l.length d)/\Bl B a d l w'/\w.grownBy w' own/\∀f,(Value.slice a l.length d).ownBlock=some f->own=some f\/w.heap.size<=f
theorem Jk {w l w2:Sw}{own own1:Option Nat}(a:w.grownBy l own)(d:l.grownBy w2 own1)(m:∀f,own1=some f->own=some f\/w.heap.size<=f):w.grownBy w2 own:=
 ⟨d.os.trans a.os,d.tape.trans a.tape,d.output.trans a.output,Qj a.size d.size,λg j k=>by
  rw[d.block g (Qh j a.size) (λe=>by rcases m g e.symm with h|h;exact k h.symm;omega),a.block g j k]⟩
theorem Tn {w w':Sw}(a:Below w w w')(own:Option Nat):w.grownBy w' own:=⟨a.os,a.tape,a.output,a.size,λf d _=>a.block f d⟩
def GU (Ai:Bool):ByteArray:=if Ai then ⟨#[108,111,111,115,101]⟩else ⟨#[116,105,103,104,116]⟩
theorem zf8 (k j:Int)(g:So)(l h:Nat)(n:Int)(info text:Sb)(Ai:Bool)(a:So)(f d:Nat)(w:Sw):Calls prog 82 #[.agg #[k,j,.slice g l h,n,info,text,Ai,.slice a f d]] w λe m=>e=.returned (.string (GU Ai))/\w.alloc (.cells #[k,j,.slice g l h,n,info,text,Ai,.slice a f d] 110)=m:=by
 cases Ai
 ·go_enter func82,ntmps82;go_wp2;go_ret;exact⟨rfl,rfl⟩
 go_enter func82,ntmps82;go_wp2;go_ret;exact⟨rfl,rfl⟩
def textOf (k:Int)(text:Sb)(Ai:Bool):ByteArray:=if k=3 then text else if k=6 then GU Ai else ⟨#[]⟩
theorem zm6 (k A:Int)(y:So)(C z:Nat)(n:Int)(info text:Sb)(Ai:Bool)(t:So)(x u:Nat)(f:Int)(w:Sw):Calls prog 62 #[.agg #[k,A,.slice y C z,n,info,text,Ai,.slice t x u],f] w λe q=>e=.returned (.agg #[f,k,n,info,.string (textOf k text Ai)])/\Below w w q:=by
 have p:∀a,(w.alloc a).heap.size=(w:Nat)+1:=by intro a;simp
 have r:∀a d,((w.alloc a).alloc d).heap.size=(w:Nat)+2:=by intro a d;simp
 have m:∀a d g,(((w.alloc a).alloc d).alloc g).heap[(w:Nat)+1]?=some d:=by
  intro a d g;rw[Sqj _ _ _ Y,<-p a];exact Ak _ _
 have o:∀a d g,Below w w (((w.alloc a).alloc d).alloc g):=λa d g=>((Sr.alloc (Qc _) _).alloc Y _).alloc (by simp;omega) _;have F:=V m;have l:=V o;clear m o p r;by_cases h:k=3
 ·subst h;go_enter func62,ntmps62;go_wp2;exact Sqk (v:=.agg #[f,(3:Int),n,info,text]) (by simp[results,results62,go_sem]) rfl ⟨rfl,l.q _ _ _⟩
 by_cases j:k=6
 ·subst j;go_enter func62,ntmps62;go_wp2_with (go_at_call 82;refine(zf8 _ _ _ _ _ _ _ _ _ _ _ _ _).mono ?_;rintro e q⟨rfl,rfl⟩)
  refine Sqk (v:=.agg #[f,(6:Int),n,info,.string (GU Ai)]) (by simp[results,results62,go_sem]) rfl ⟨rfl,?_⟩;exact(l.q _ _ _).alloc (by simp;omega) _
 have D:(k == 3)=false:=by rw[Qe];exact h
 have E:(k == 6)=false:=by rw[Qe];exact j
 have s:U (textOf k text Ai=⟨#[]⟩):=V (by unfold textOf;rw[if_neg h,if_neg j]);rw[s.q];clear h j;go_enter func62,ntmps62;go_wp2;exact Sqk (v:=.agg #[f,k,n,info,()]) (by simp[results,results62,go_sem]) rfl ⟨rfl,l.q _ _ _⟩
theorem ziz (k s:Int)(q:So)(t r:Nat)(n:Int)(info text:Sb)(Ai:Bool)(m:So)(p o:Nat)(h:Int)(a:So)(ln d:Nat)(w:Sw)(f:¬k=1)(g:¬k=2):Calls prog 63 #[.slice a ln d,.agg #[k,s,.slice q t r,n,info,text,Ai,.slice m p o],h] w λe u=>e=.returned (.slice a ln d)/\Below w w u:=by
 have j:(k == 1)=false:=by rw[Qe];exact f
 have l:(k == 2)=false:=by rw[Qe];exact g
 have v:(k != 1)=true:=by simp[bne,j]
 have x:(k != 2)=true:=by simp[bne,l]
 clear f g;go_enter func63,ntmps63;go_wp2;go_ret;exact⟨rfl,Sr.alloc (Qc _) _⟩
mutual
def Ms (d:List UInt8->Nat->List Nd) (a:Nat):S.Ac->List Nd
 |.at_ _ f n info text Ai Ab=>(⟨(a:Int),f,n,S.B info,textOf f (S.B text) Ai⟩:Nd)::((if f=1\/f=2 then d text (a+1)else [])++Cw d (a+1) Ab)
def Cw (d:List UInt8->Nat->List Nd) (a:Nat):List S.Ac->List Nd
 |[]=>[]
 |b::g=>Ms d a b++Cw d a g
end
mutual
def Oo (P:List UInt8->Prop) (a:Nat):S.Ac->Prop
 |.at_ _ d _ _ text _ Ab=>(d=1\/d=2->P text)/\Gb P (a+1) Ab
def Gb (P:List UInt8->Prop) (a:Nat):List S.Ac->Prop
 |[]=>a<=90000
 |b::f=>Oo P a b/\Gb P a f
end
theorem zgp (P:List UInt8->Prop)(a:Nat)(z:Int)(b:S.Ac):Oo P a (b.put z)↔Oo P a b:=by cases b;simp only[S.Ac.put,Oo]
theorem UC (P:List UInt8->Prop)(d:Nat)(f:List S.Ac)(a:Gb P d f):d<=90000:=by
 induction f with
 |nil=>simpa [Gb]using a
 |cons b h g=>simp only[Gb]at a;exact g a.2
theorem zfs (P:List UInt8->Prop)(g:Nat)(f:List S.Ac)(d:Gb P g f)(i:Nat)(t:S.Ac)(a:f[i]?=some t):Oo P g t:=by
 induction f generalizing i with
 |nil=>simp at a
 |cons b j h=>
  simp only[Gb]at d;cases i with
  |zero=>simp at a;subst a;exact d.1
  |succ i=>exact h d.2 i (by simpa using a)
theorem UW (a:List UInt8->Nat->List Nd)(d:Nat)(f g:List S.Ac):Cw a d (f++g)=Cw a d f++Cw a d g:=by
 induction f with
 |nil=>simp[Cw]
 |cons b j h=>simp[Cw,h]
theorem JB (a:List UInt8->Nat->List Nd)(d:Nat)(f:List S.Ac)(k:Nat)(t:S.Ac)(g:f[k]?=some t):Cw a d (f.take (k+1))=Cw a d (f.take k)++Ms a d t:=by
 rw[Sv,g,UW];simp[Cw]
theorem zfp (d:List UInt8->Nat->List Nd)(f:Nat)(a:List S.Ac)(k:Nat):(Cw d f (a.take k)).length<=(Cw d f a).length:=by
 conv=>rhs;rw[<-Sy k a,UW]
 simp
theorem zm1 (d:List UInt8->Nat->List Nd)(f:Nat)(a:List S.Ac):a.length<=(Cw d f a).length:=by
 induction a with
 |nil=>simp
 |cons b j g=>
  obtain⟨k,h,n,info,text,Ai,Ab⟩:=b;simp only[Cw,Ms,Qa,Qd];omega
theorem Env.JU {B:Nat}{w w':Sw}(j:Env w)(k:3<B)(l:0<B)(a:Below B w w'):Env w':=by
 obtain⟨⟨h,d,f⟩,⟨m,g⟩,o,q⟩:=j;have:=a.size;exact⟨⟨h,(a.cell (p:=⟨3,0,none⟩) k).trans d,f⟩,⟨m,(a.cell (p:=⟨0,0,none⟩) l).trans g⟩,Z,Z⟩
def Xv (c:List UInt8)(j:Nat->List Nd):Prop:=∀(B:Nat) (h q:Int) (o:So) (r p:Nat) (n:Int) (info:Sb) (Ai:Bool) (k:So) (m l:Nat) (d:Nat) (f:So) (g:Nat) (a:List Nd) (w:Sw),Env w->h=1\/h=2->B<=w.heap.size->Bl B f g a w->(a++j d).length<=1000000->d<=90000 ->
  Calls prog 63 #[.slice f a.length g,.agg #[h,q,.slice o r p,n,info,(S.B c),Ai,.slice k m l],d] w (Laid B (Value.slice f a.length g).ownBlock (a++j d) w)
theorem zez (P:List UInt8->Prop)(h:List UInt8->Nat->List Nd)(A:∀c,P c->Xv c (h c))(B:Nat)(k s:Int)(q:So)(t r:Nat)(n:Int)(info:Sb)(text:List UInt8)(Ai:Bool)(m:So)(p o:Nat)(f:Nat)(a:So)(d:Nat)(l:List Nd)(w:Sw)(C:Env w)(z:k=1\/k=2->P text)(y:B<=w)(x:Bl B a d l w)(v:(l++(if k=1\/k=2 then h text f else [])).length<=1000000)(hd:f<=90000):Calls prog 63 #[.slice a l.length d,.agg #[k,s,.slice q t r,n,info,(S.B text),Ai,.slice m p o],f] w (Laid B (Value.slice a l.length d).ownBlock (l++(if k=1\/k=2 then h text f else [])) w):=by
 by_cases g:k=1\/k=2
 ·rw[if_pos g]at v ⊢;exact A text (z g) B k s q t r n info Ai m p o f a d l w C g y x v hd
 rw[if_neg g,Qbk];refine(ziz k s q t r n info (S.B text) Ai m p o f a l.length d w (λj=>g (.inl j)) (λj=>g (.inr j))).mono ?_;rintro e F⟨rfl,u⟩;exact⟨a,d,rfl,x.below u,Tn u _,λE D=>.inl D⟩
theorem zje (P:List UInt8->Prop)(h:List UInt8->Nat->List Nd)(cc:∀c,P c->Xv c (h c))(B:Nat)(K:Sw)(ce:Env K)(b0:K<=B)(A:Nat->Prop)(bx:∀cs,A cs->cs<B)(v:Value)(f:List S.Ac)(g:Co K A v f):∀(w:Sw) (r:So) (s:Nat) (j:List Nd) (a:Nat),Below B K w->B<=w.heap.size->Bl B r s j w->(j++Cw h a f).length<=1000000->Gb P a f ->
   Calls prog 44 #[.slice r j.length s,v,a] w (Laid B (Value.slice r j.length s).ownBlock (j++Cw h a f) w):=by
 induction g with
 |nil=>
  intro w r s j a ah bz o W D;have a8:=V o;clear o ah W D;go_enter func44,ntmps44;go_wp2;refine wp_loop_rounds 1 ?_;rw[rounds_succ];go_wp2;go_ret;refine⟨r,s,?_,?_,World.grownBy.refl _ _,λm D=>.inl (by simpa [Value.ownBlock,Cw]using D)⟩;·simp[Cw]
  simpa [Cw]using a8.q
 |some b bi d8 f em ax ed cd a5 cr=>
  intro w r s j a ah bz o W D;obtain⟨i0,di,d3,d4,d5⟩:=info_parts Tryz.Yf;have c7:=bx b ax;have a8:=V o;have c8:=V cd;have dj:=V cr;have dg:=V D;have dq:=V W;have c5:=V ah;have dm:=V a5;have c9:=V cc;have a2:=V ce;have ee:=UC P a f D;have dt:=V (o.lt);have el:f.length<=1000000:=by have:=zm1 h a f;rw[Qa]at W;omega
  clear o cd cr D W ah a5 cc bx ce;go_enter func44,ntmps44;go_wp2;go_loopw [0,8,11] (λd6 _ i wr=>∃(d:Nat) (y:So) (z:Nat),d<=f.length/\i=.int .i64 d/\d6=.slice y (j++Cw h a (f.take d)).length z/\Bl B y z (j++Cw h a (f.take d)) wr/\w.grownBy wr (Value.slice r j.length s).ownBlock/\∀m,(Value.slice y (j++Cw h a (f.take d)).length z).ownBlock=some m->(Value.slice r j.length s).ownBlock=some m\/w.heap.size<=m) (λ_ _ i _=>f.length-(intOf i).toNat)
  case atStart=>
   refine⟨0,r,s,Qt _,rfl,?_,?_,World.grownBy.refl _ _,?_⟩;·simp[Cw]
   ·simpa [Cw]using a8.q
   intro m D;exact .inl (by simpa [Value.ownBlock,Cw]using D)
  case round=>
   obtain⟨d,y,z,a5,rfl,rfl,o,R,Q⟩:=hrel;have aj:Below B w wr:=Sqi (Below.refl B w) R bz (λac ab=>(dt.q ac ab).1);have ak:=c5.q.trans aj;have ek:w<=wr.heap.size:=R.size;by_cases ck:d<f.length
   ·obtain⟨x,G⟩:∃x,f[d]?=some x:=⟨f[d],Qg ck⟩;have a6:=zfp h a f (d+1);rw[JB h a f d x G]at a6;have al:U (j++Cw h a (f.take (d+1))=(j++Cw h a (f.take d))++Ms h a x):=V (by rw[JB h a f d x G,Qp]);have T:((j++Cw h a (f.take d))++Ms h a x).length<=1000000:=(by have:=dq.q;simp only[Qa]at this a6 ⊢;omega);obtain⟨l,aw⟩:=Qyy (j++Cw h a (f.take d));rw[aw]at o Q al T ⊢;have d9:=V aw;have ao:=zfs P a f dg.q d x G;have a1:=c8.q d x G;have ch:=dm.q d x G;have ap:=dj.q d x G;obtain⟨ba,bc,bb,ci⟩:=ch.form;rw[ci]at a1 ap;obtain⟨bg,E,n,info,text,Ai,Ab⟩:=x;simp only[S.Ac.line,S.Ac.kind,S.Ac.n,S.Ac.info,S.Ac.text,S.Ac.Ai,S.Ac.Ab]at a1 ap;simp only[Oo]at ao;simp only[Ms]at T al;obtain⟨bp,bq,⟨bd,bh,bf,br⟩,bs,bt,bu,bv,bw⟩:=a1;have C:∀u,wr.cell? (b (bi+8*d+u))=K.cell? (b (bi+8*d+u)):=λu=>ak.cell (p:=⟨b,bi+8*d+u,none⟩) c7;have bl:=(C 0).trans bp;have ct:=(C 1).trans bq;have cu:=(C 2).trans br;have cv:=(C 3).trans bs;have cw:=(C 4).trans bt;have cx:=(C 5).trans bu;have cy:=(C 6).trans bv;have cz:=(C 7).trans bw;rw[SL]at bl;rw[Nat.mul_comm 8 d]at bl ct cu cv cw cx cy cz;have da:a+1<=90000:=UC P (a+1) Ab ao.2;obtain⟨N,b1⟩:=Qzz (Obj.cells #[E,bg,.slice bd bh bf,n,(S.B info),(S.B text),Ai,.slice ba bc bb] 110);have c2:=V (zm6 E bg bd bh bf n (S.B info) (S.B text) Ai ba bc bb a (wr.alloc N));have cm:=V o;have ec:=V aj;have cb:=V ak;have dh:=V R;have b9:=V Q;have cg:=V ao;have dk:=V ap;have b2:=V b1;clear bp bq br bs bt bu bv bw C ch ci a6 aw G o aj ak R Q ao ap b1;go_wp2_with (fail);rw[<-b2.q];apply c2.m;rintro e q⟨rfl,ai⟩;obtain⟨F,ar⟩:∃F:Nd,F=⟨(a:Int),E,n,S.B info,textOf E (S.B text) Ai⟩:=⟨_,rfl⟩;rw[<-ar]at T al;have az:Below wr wr q:=(Sr.alloc (Qc _) N).trans (ai.mono Y);have eh:(wr:Nat)+1<=q.heap.size:=(by have:=ai.size;simpa using this);have cp:q.heap[wr.heap.size]?=some N:=(ai.block wr Y).trans (Ak _ _);have a7:=Bl.below cm.q az;have dw:=V (λau=>Bl.alloc a7 au);have du:U (∀u H,(Cg F)[u]?=some H->(q.alloc (.cells #[a,E,n,(S.B info),.string (textOf E (S.B text) Ai)] 36)).cell? ((q:Addr).add u)=some H):=V (by
     intro u H dl;have ax:(q:Addr).add u=⟨q,u,none⟩:=by
      simp only[Addr.add];split;·rename_i g;simp<;>omega
      simp<;>omega
     rw[ax];exact X (Ak _ _) u H (by rw[<-dl,ar];simp[Cg]))
    have dv:U (∀H∈Cg F,H.oneCell'=true):=V (by
     intro H co;simp[Cg]at co;rcases co with rfl|rfl|rfl|rfl|rfl<;>rfl)
    have ea:l.length+1<=1000000:=(by simp only[Qa,Qd]at T;omega);have aq:=V (cm.q.lt);have ef:=V (a7.lt);have d0:=V cp;have c6:=V az;have cj:=V T;have eg:=V ar;clear ai az cp a7 T ar;go_wp2_with (at_builtin;refine wpList_append_lies _ I _ _ 22 I B 36 i0 (.agg #[O,O,O,(),()]) 5 56 underlying22 di d3 d4 d5 I Z (.slice y l.length z) l.length (Ck l) I (dw.q _) q 1 1 (Cg F) I I du.q dv.q Z (by unfold maxLen;omega) Z (by simp;omega) ((q:Nat)+1) Y ?_)
    intro m bm L aa an ay ds;have a9:∀au,(q.alloc au).heap.size=(q:Nat)+1:=(by intro au;simp);have ei:(q:Nat)+1<=L.heap.size:=(by have:=an.size;rw[a9]at this;exact this);have t:L.heap[wr.heap.size]?=some N:=by
     rw[an.block wr (by rw[a9];omega) (λe=>by have:=aq.q _ e.symm;omega),Sqj _ _ _ Z];exact d0.q
    have cn:Bl B (some ⟨m,0,none⟩) bm (l++[F]) L:=by
     unfold Bl;rw[DW,Qa];exact aa
    have a3:wr.grownBy L (Value.slice y l.length z).ownBlock:=Jk (Jk (Tn c6.q _) (World.grownBy_alloc _ _ _) (λm g=>.inl g)) an (λm g=>.inl g);have b3:(Value.slice y l.length z).ownBlock=some m\/wr.heap.size<=m:=ay.imp id (λg=>Z);have d2:wr.heap.size≠m:=by
     rintro rfl;rcases ay with g|g
     ·have:=aq.q _ g;omega
     omega
    have a0:Below B K L:=cb.q.trans (Sqi (Below.refl B wr) a3 Z (λac ab=>(aq.q ac ab).1));have dr:(l++[F]).length=l.length+1:=Y;have af:=zez P h c9.q B E bg bd bh bf n (S.B info) text Ai ba bc bb (a+1) (some ⟨m,0,none⟩) bm (l++[F]) L (a2.q.JU (Qh a2.q.2.2.1 b0) (Qh a2.q.2.2.2 b0) a0) cg.q.1 Z cn (by have:=cj.q;simp only[Qa,Qd,Qi]at this ⊢;omega) da;rw[dr,show ((a+1:Nat):Int)=(a:Int)+1 from by omega]at af;obtain⟨M,ag⟩:=Qyy ((l++[F])++(if E=1\/E=2 then h text (a+1)else []))
    rw[ag]at af;have c0:=V af;have db:U (M++Cw h (a+1) Ab=j++Cw h a (f.take (d+1))):=V (by rw[al.q,<-ag];simp[List.append_assoc]);have dp:U ((M++Cw h (a+1) Ab).length<=1000000):=V (by have:=cj.q;rw[<-ag];simp only[Qa,Qd,Qi]at this ⊢;omega);clear ag;rw[b2.q]at t;have en:=X t 0 _ rfl;have eo:=X t 1 _ rfl;have ep:=X t 2 _ rfl;have eq:=X t 3 _ rfl;have er:=X t 4 _ rfl;have es:=X t 5 _ rfl;have et:=X t 6 _ rfl;have eu:=X t 7 _ rfl;have d1:=V t;have dc:=V a3;have b4:=V b3;have eb:=V a0;clear aa an ay ds t a3 b3 a0 cn af a9;go_wp2_with (fail);apply c0.m;rintro e ae⟨bj,bn,rfl,aa,am,b5⟩;have ej:L<=ae.heap.size:=am.size;have cq:ae.heap[wr.heap.size]?=_:=(am.block wr Z (by simpa [Value.ownBlock]using d2)).trans d1.q;have ev:=X cq 7 _ rfl;have a4:wr.grownBy ae (Value.slice y l.length z).ownBlock:=Jk dc.q am (λk g=>by
     have:m=k:=(by simpa [Value.ownBlock]using g);subst this;exact b4.q)
    have b7:∀k,(Value.slice bj M.length bn).ownBlock=some k->(Value.slice y l.length z).ownBlock=some k\/wr.heap.size<=k:=λk g=>by
     rcases b5 k g with g|g
     ·have:m=k:=(by simpa [Value.ownBlock]using g);subst this;exact b4.q
     exact .inr Z
    have ca:Below B K ae:=cb.q.trans (Sqi (Below.refl B wr) a4 Z (λac ab=>(aq.q ac ab).1));have av:=dk.q ae bj bn M (a+1) ca Z aa dp.q cg.q.2;rw[db.q,show ((a+1:Nat):Int)=(a:Int)+1 from by omega]at av;have c1:=V av;have dd:=V a4;have b6:=V b7;clear aa am b5 cq a4 b7 ca av;go_wp2_with (fail);apply c1.m;rintro e d7⟨bk,bo,rfl,cl,cf,b8⟩;have dx:=V cl;have de:=V (Jk dh.q (Jk dd.q cf b6.q) b9.q);have c3:U (∀k,(Value.slice bk (j++Cw h a (f.take (d+1))).length bo).ownBlock=some k->(Value.slice r j.length s).ownBlock=some k\/w.heap.size<=k):=V (λk g=>by
     rcases b8 k g with g|g
     ·rcases b6.q k g with g|g
      ·exact b9.q k g
      exact .inr Z
     exact .inr Z)
    clear cl cf b8;go_wp2;go_roundw
    case rel=>exact⟨d+1,bk,bo,Z,by go_num,Y,dx.q,de.q,c3.q⟩
    case measure=>exact Sj
   have dn:d=f.length:=Z;subst dn;rw[Qbl]at o Q ⊢;have dy:=V o;have df:=V R;have c4:=V Q;clear o R Q aj ak ck;go_wp2;go_ret;exact⟨y,z,rfl,dy.q,df.q,c4.q⟩
theorem Uz (a:Nat):Oa a:=by
 induction a with
 |zero=>intro b g f h w _ _ _ _ hd;omega
 |succ a d=>exact zkj a d (OD a d)
theorem TM (s:Sb)(w:Sw)(h:s.size<=281474976710656):Calls prog 46 #[s] w λe d=>e=.returned s/\Below w w d:=by
 have f:=V (Tryz.stringslite_Clone s w h);go_enter func46,ntmps46;go_wp2_with fail
 apply f.m;rintro e d⟨rfl,a⟩;have g:=V a;clear a;go_wp2;go_ret;exact⟨rfl,g.q⟩
theorem zf5 (P:List UInt8->Prop)(h:List UInt8->Nat->List Nd)(y:∀c,P c->Xv c (h c))(s:Sb)(w:Sw)(ag:s.size<=1500)(q:Env w)(d:List S.Ac)(D:(S.Ag (s.size+1) (S.Aw s)).1=d)(o:Gb P 0 d)(A:(Cw h 0 d).length<=1000000):Calls prog 14 #[s] w λe g=>∃B j k,e=.returned (.tuple #[.slice j (Cw h 0 d).length k,O])/\w.heap.size<=B/\Bl B j k (Cw h 0 d) g/\Below w w g:=by
 have G:=V (TM s w Z);have H:U (∀a,Below w w a->Calls prog 45 #[s] a λe g=>∃t,e=.returned t/\Co g (λu=>a.heap.size<=u/\u<g) t d/\Below a.heap.size a g):=V (λa M=>by
  have:=CG Uz s a Z (q.below M);rw[D]at this;exact this)
 have W:=V o;have aa:=V A;have R:=V y;have ah:¬(1500:Int)<(s.size:Int):=Z;have T:=V q;clear o A y D q;go_enter func14,ntmps14;go_wp2_with fail
 apply G.m;rintro e a⟨rfl,l⟩;have K:=V (H.q a l);have v:=V l;have E:=l.size;clear l;go_wp2_with fail
 apply K.m;rintro e f⟨t,rfl,r,m⟩;obtain⟨aj,al,ak,rfl⟩:=r.form;have ai:=m.size;have p:=zje P h R.q f f (T.q.below (v.q.trans (m.mono E))) (Qc _) _ (λu ac=>ac.2) _ d r f none 0 [] 0 Sr (Qc _) (Bl.nil _ _) (by simpa using aa.q) W.q;rw[SY]at p;have F:=V p;have N:=V m;clear r m p;go_wp2_with fail
 apply F.m;rintro e ae⟨j,k,rfl,C,z,L⟩;have ab:=V C;have x:Below f f ae:=Sqi Sr z (Qc _) (λaf o=>by simp[Value.ownBlock]at o);have Q:=V x;clear C z L x;go_wp2;go_ret2;exact⟨f,j,k,rfl,Z,ab.q,v.q.trans ((N.q.mono E).trans (Q.q.mono Z))⟩
theorem znd (l:List Nd)(i a:Nat)(j:Nd)(d:l[i]?=some j)(m:a<5):(Ck l)[5*i+a]?=(Cg j)[a]?:=by
 induction l generalizing i with
 |nil=>simp at d
 |cons g h k=>
  have f:(Cg g).length=5:=rfl;cases i with
  |zero=>
   simp at d;subst d;show (Cg g++Ck h)[5*0+a]?=_;rw[Qbd (by rw[f];omega)];simp
  |succ i=>
   have:=k i (by simpa using d);show (Cg g++Ck h)[5*(i+1)+a]?=_;rw[Qu (by rw[f];omega),f,<-this];congr 1;omega
theorem Bl.some {B:Nat}{a:So}{k:Nat}{l:List Nd}{w:Sw}(j:Bl B a k l w)(D:0<l.length):∃g,a=some ⟨g,0,none⟩/\B<=g/\l.length<=k/\∀i d h f,l[i]?=some h->d<5->(Cg h)[d]?=some f->w.cell? ⟨g,5*i+d,none⟩=some f:=by
 rcases j.2 with ⟨m,o⟩|⟨g,v,x,m,o,y,q,z,A,C⟩
 ·omega
 cases m
 refine⟨g,rfl,o,q,?_⟩;intro i d h f s t u;have p:=znd l i d h s t;rw[u]at p;have:=World.ownsRow.cells j (g:=g) rfl (5*i+d) f p;have r:(⟨g,0,none⟩:Addr).add (5*i+d)=⟨g,5*i+d,none⟩:=by
  simp only[Addr.add];split;·rename_i j;simp<;>omega
  simp<;>omega
 rw[<-r];exact this
namespace S
theorem zde (p r:List UInt8)(h:10∉p):Aw (p++10::r)=p::Aw r:=by
 unfold Aw;rw[if_neg Y];by_cases a:r=[]
 ·subst a;rw[if_pos rfl];have:Lib.trimSuffix (p++[10]) [10]=p:=by
   unfold Lib.trimSuffix;rw[if_pos (by unfold Lib.hasSuffix;simp)];simp
  rw[this,DN p (List.count_eq_zero.2 h)]
 rw[if_neg a];have:Lib.trimSuffix (p++10::r) [10]=p++10::Lib.trimSuffix r [10]:=by
  unfold Lib.trimSuffix;by_cases d:Lib.hasSuffix r [10]=true
  ·have f:Lib.hasSuffix (p++10::r) [10]=true:=by
    unfold Lib.hasSuffix at *;simp only[List.isSuffixOf_iff_suffix]at *;exact d.trans ((List.suffix_cons 10 r).trans (List.suffix_append p _))
   rw[if_pos d,if_pos f];have m:0<r.length:=Qbf.2 a;simp only[Qa,Qd,Qi];rw[show p.length+(r.length+1)-(0+1)=p.length+r.length from Z,List.take_append,Qbj Z];congr 1
   rw[show p.length+r.length-p.length=(r.length-(0+1))+1 from Z,Qz]
  have f:¬Lib.hasSuffix (p++10::r) [10]=true:=by
   unfold Lib.hasSuffix at *;simp only[List.isSuffixOf_iff_suffix]at *;rintro⟨l,k⟩;apply d
   obtain⟨g,b,rfl⟩:∃g b,r=g++[b]:=⟨r.dropLast,r.getLast a,(List.dropLast_concat_getLast a).symm⟩;have:l++[10]=(p++10::g)++[b]:=by rw[k];simp
   have j:=(List.append_inj' this rfl).2;simp at j;subst j;exact List.suffix_append _ _
  rw[if_neg d,if_neg f]
 rw[this,zbx p _ h]
theorem zcw (p:List UInt8)(a:10∉p)(d:p≠[]):Aw p=[p]:=by
 unfold Aw;rw[if_neg d];have:Lib.trimSuffix p [10]=p:=by
  unfold Lib.trimSuffix;rw[if_neg];unfold Lib.hasSuffix;simp only[List.isSuffixOf_iff_suffix];rintro⟨g,f⟩;apply a;rw[<-f];simp
 rw[this,DN p (List.count_eq_zero.2 a)]
theorem extract_data (s:Sb)(a k:Nat):(s.extract a k).data.toList=(s.data.toList.drop a).take (k-a):=by
 rw[Lib.extract_data]
theorem zdj (l:List UInt8)(a k:Nat)(j:a<=k)(f:l[k]?=some 10)(d:10∉(l.drop a).take (k-a)):Aw (l.drop a)=(l.drop a).take (k-a)::Aw (l.drop (k+1)):=by
 obtain⟨g,h⟩:=Qb.1 f;have e:l.drop a=(l.drop a).take (k-a)++10::l.drop (k+1):=by
  conv=>lhs;rw[<-Sy (k-a) (l.drop a)]
  rw[Qbb,show a+(k-a)=k from Z,Qm g,h]
 conv=>lhs;rw[e]
 exact zde _ _ d
theorem zbz (l:List UInt8)(a k:Nat)(j:a<=k)(d:UInt8)(g:l[k]?=some d)(h:d≠10)(f:10∉(l.drop a).take (k-a)):10∉(l.drop a).take (k+1-a):=by
 rw[show k+1-a=(k-a)+1 from Z,Sv,Qn,show a+(k-a)=k from Z,g];simp only[Option.toList,Qbh,Qbi,not_or];exact⟨f,λe=>h e.symm⟩
end S
