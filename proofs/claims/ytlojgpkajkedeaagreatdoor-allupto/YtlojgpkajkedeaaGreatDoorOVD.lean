import Derived.Test.YtlojgpkajkedeaaGreatDoorOTT
import Derived.Test.YtlojgpkajkedeaaGreatDoorOPV
import Derived.Maps.AppendAt
import Derived.Deep.AppendLies
import Derived.Laws.AppendOwnNone
set_option maxHeartbeats 0
set_option maxRecDepth 100000
namespace Go.Proofs.YtlojgpkajkedeaaGreatDoor
open Go.RowKit Go.Proofs.Tryz
mutual
def Nb:Rn->List Tl
 |.nd d n _ _ f a=>(if d=2 then [⟨n,Dm a,f⟩]else [])++D9 a
def D9:List Rn->List Tl
 |[]=>[]
 |n::g=>Nb n++D9 g
end
theorem zmq (a b:List Rn):D9 (a++b)=D9 a++D9 b:=by
 induction a with
 |nil=>simp[D9]
 |cons g f d=>simp only[List.cons_append,D9,d,Qp]
theorem znk (l:List Rn)(k:Nat)(t:Rn)(a:l[k]?=some t):D9 (l.take (k+1))=D9 (l.take k)++Nb t:=by
 rw[Sv,a,zmq];simp[D9]
mutual
theorem zl5 (n:Rn):(Nb n).length<=H7 n:=by
 cases n with
 |nd k n i l a d=>
  have:=DR d;simp only[Nb,H7,Qa];split
  ·simp;omega
  simp;omega
theorem DR (a:List Rn):(D9 a).length<=Dp a:=by
 cases a with
 |nil=>simp[D9]
 |cons g f=>
  have h:=zl5 g;have j:=DR f;simp only[D9,Dp,Qa];omega
end
theorem YF (a b:List Tl):Cb (a++b)=Cb a++Cb b:=by simp[Cb]
theorem zla (l:List Tl):∀d∈Cb l,d.oneCell'=true:=by
 intro d a;simp only[Cb,List.mem_flatten,List.mem_map]at a;obtain⟨c,⟨f,_,rfl⟩,a⟩:=a;simp[Cc]at a;rcases a with rfl|rfl|rfl<;>rfl
theorem zke (A:Nat->Prop)(K:Sw)(a9:∀aj,A aj->aj<K)(v:Value)(ns:List Rn)(R:Bv K A v ns):∀(w:Sw),Below K K w->Dp ns<=1000000 ->
  Calls prog 70 #[v] w λe y=>∃l m,e=.returned (.slice l (D9 ns).length m)/\Bw w l m (D9 ns) y/\Below w w y:=by
 obtain⟨i0,ac,bu,bv,bw⟩:=info_parts Tryz.Wp;induction R with
 |nil=>
  intro w ak hd;clear ak hd;go_enter func70,ntmps70;go_wp2;refine wp_loop_rounds 1 ?_;rw[rounds_succ];go_wp2;go_ret;exact⟨none,0,rfl,Sqg _ _ _ _,Sr⟩
 |some b h d2 ns ee b7 d9 cb cf cm=>
  intro w ak hd;have bj:=a9 b b7;have ay:=ak.size;have ca:b<w:=Qh bj ay;have ec:=Zy ns;have eb:ns.length<=1000000:=Z;have c3:=V cb;have c9:=V cf;have dw:=V cm;have al:=V ak;have ct:=V a9;have bn:=V hd;clear cb cf cm ak a9 b7;go_enter func70,ntmps70;go_wp2;go_loopw [3,4] (λd0 bx wr=>∃(a bz:Nat) (l:So) (m:Nat),a<=ns.length/\bx=.int .i64 a/\d0=.slice l bz m/\U (bz=(D9 (ns.take a)).length/\Bw w l m (D9 (ns.take a)) wr/\Below w w wr)) (λ_ bx _=>ns.length-(intOf bx).toNat)
  case atStart=>exact⟨0,0,none,0,Qt _,rfl,rfl,V ⟨by simp[D9],by simp only[List.take_zero,D9];exact Sqg _ _ _ _,Sr⟩⟩
  case round=>
   obtain⟨a,bz,l,m,ea,rfl,rfl,P⟩:=hrel;by_cases dd:a<ns.length
   ·obtain⟨H,af⟩:∃H,ns[a]?=some H:=⟨ns[a],Qg dd⟩;have bm:=c3.q a H af;have aq:=c9.q a H af;have a2:=dw.q a H af;have ab:=znk ns a H af;have cd:=CR ns a H af;have db:=DR (ns.take (a+1));have ds:=DZ ns (a+1);obtain⟨ag,ai,ah,cg⟩:=aq.form;rw[cg]at bm a2 aq;obtain⟨d,b6⟩:=Qyy (D9 (ns.take a));rw[b6]at P ab;obtain⟨ch,a1,M⟩:=P.q;subst ch;cases H with
    |nd a3 n dy d1 u D=>
    simp only[Nb]at ab;simp only[H7]at cd;simp only[Rn.Ab]at a2 aq;have cl:w<=wr.heap.size:=M.size;have d8:Below K K wr:=al.q.trans (M.mono ay);have an:∀o x,(Ko (.nd a3 n dy d1 u D) (.slice ag ai ah))[o]?=some x->K.cell? (b (h+a*7+o))=some x:=bm;have ap:U (∀j,Below w w j->j.cell? (b (h+a*7+2))=some (.int .i64 n)/\j.cell? (b (h+a*7+6))=some (.slice ag ai ah)/\j.cell? (b (h+a*7+5))=some (.int .i64 u)):=V (λj t=>
     have C:∀o,j.cell? (b (h+a*7+o))=K.cell? (b (h+a*7+o)):=λo=>(t.cell (p:=⟨b,h+a*7+o,none⟩) ca).trans (al.q.cell (p:=⟨b,h+a*7+o,none⟩) bj);⟨(C 2).trans (an 2 _ rfl),(C 6).trans (an 6 _ rfl),(C 5).trans (an 5 _ rfl)⟩)
    have co:wr.cell? (b (h+a*7+1))=some (.int .i64 a3):=(M.cell (p:=⟨b,h+a*7+1,none⟩) ca).trans ((al.q.cell (p:=⟨b,h+a*7+1,none⟩) bj).trans (an 1 _ rfl));have d5:(a:Int)<(ns.length:Int):=Z;have d4:(0:Int)<=(a:Int):=Z;obtain⟨z,ba⟩:=Qyy ((if a3=2 then [(⟨n,Dm D,u⟩:Tl)]else []))
    rw[ba]at ab;have bf:U (∀q:Sw,Below w w q->Calls prog 101 #[.slice ag ai ah] q λe y=>e=.returned (.string (S.B (Dm D)))/\y=q):=V (λq c1=>RP _ q _ D (aq.move (λaj C=>C) (λaj C=>(al.q.trans (c1.mono ay)).block aj (ct.q aj C))) (by have:=bn.q;omega));have c2:U (Dp D<=Dp ns):=V Z;have c4:=V ab;have bt:=V a1;have aa:=V M;have bc:U ((d++z++D9 D).length<=1000000):=V (by rw[Qp,<-ab];have:=bn.q;omega);have dx:=V a2;have b4:=V ba;clear bm aq a2 cg an b6 af ab cd db ds P a1 M ba;obtain⟨a7,b8⟩:=Qyy ((a3 == 2));have b9:=V b8;go_upto_if 17 with fail
    clear b8 co;go_cut [3] (λv q=>∃(b0:Nat) (E:So) (F:Nat),v=.slice E b0 F/\U (b0=(d++z).length/\Bw w E F (d++z) q/\Below w w q))
    case first=>
     cases a7
     ·have T:U (z=[]):=V (by rw[<-b4.q,if_neg (by have:=b9.q;simpa using this)]);go_wp2;go_meet;exact⟨d.length,l,m,rfl,V ⟨by rw[T.q,Qbk],by rw[T.q,Qbk];exact bt.q,aa.q⟩⟩
     have T:U (z=[⟨n,Dm D,u⟩]):=V (by rw[<-b4.q,if_pos (by have:=b9.q;simpa using this)]);obtain⟨G,br⟩:=Qyy (S.B (Dm D));rw[br]at bf;have az:=ap.q wr aa.q;have cp:=az.1;have b1:=az.2.1;have cq:=az.2.2;have d7:d.length+1<=1000000:=(by have:=bc.q;rw[T.q]at this;simp only[Qa,List.length_singleton]at this;omega);have c8:=ap.q _ aa.q.drew;have c7:U (∀s,(wr.alloc s).drew.cell? (b (h+a*7+2))=some (.int .i64 n)/\(wr.alloc s).drew.cell? (b (h+a*7+6))=some (.slice ag ai ah)/\(wr.alloc s).drew.cell? (b (h+a*7+5))=some (.int .i64 u)):=V (λs=>ap.q _ (aa.q.alloc cl s).drew);have dp:U (∀s,(wr.alloc s).drew.ownsRow w 71 3 (.slice l d.length m) d.length (Cb d)):=V (λs=>(show wr.ownsRow w 71 3 (.slice l d.length m) d.length (Cb d) from bt.q).kept (Below.Ll ((Below.refl wr wr).alloc (Qc _) s).drew) (by
      cases R:(Value.slice l d.length m).ownBlock with
      |none=>exact .inl rfl
      |some g=>exact .inr Y))
     have di:U (∀i v,([Value.int .i64 n,G,u]:List Value)[i]?=some v->(wr.alloc (.cells #[n,G,u] 71)).drew.cell? ((wr:Addr).add i)=some v):=V (λi v ac=>World.news_of_block (Ak wr _) i v (by exact ac));have dm:U (∀v∈([Value.int .i64 n,G,u]:List Value),v.oneCell'=true):=V (by
      intro v ck;simp at ck;rcases ck with rfl|rfl|rfl<;>rfl)
     have de:U (∀g,(Value.slice l d.length m).ownBlock=some g->w<=g):=V (λg c5=>(World.ownsRow.lt bt.q g c5).1);have dr:U (∀s g Q j,j.ownsRow w 71 3 (.slice (some ⟨g,0,none⟩) (d.length+1) Q) (d.length+1) (Cb d++[.int .i64 n,.string G,.int .i64 u])->(wr.alloc s).drew.grownBy j (Value.slice l d.length m).ownBlock->Bw w (some ⟨g,0,none⟩) Q (d++z) j/\Below w w j):=V (λs g Q j dl c6=>by
      refine⟨?_,Sqi (aa.q.alloc cl s).drew c6 (by simp;omega) (λav au=>de.q av au)⟩;rw[T.q];unfold Bw;rw[GL,Qa];unfold Cc;rw[br];exact dl)
     have cx:U (∀q:Sw,Below w w q->Calls prog 101 #[.slice ag ai ah] q λe y=>e=.returned G/\y=q):=V (λq C=>bf.q q C);have c0:U (Below w w wr.drew):=V aa.q.drew;have cu:U ((d++z).length=d.length+1):=V (by rw[T.q,Qa];rfl);clear az br bf;go_upto_region 6 with fail
     go_region_held3 (λy=>y.cell? (b (h+a*7+2))=some (.int .i64 n)/\y.cell? (b (h+a*7+6))=some (.slice ag ai ah)/\y.cell? (b (h+a*7+5))=some (.int .i64 u))
      (with_reducible first|exact⟨cp,b1,cq⟩|exact c8|exact c7.q _|exact ce)
      ((first|(go_at_call 101;refine(cx.q _ c0.q).mono ?_;rintro e y⟨rfl,rfl⟩)|(refine step_append_lies _ I _ _ 65 I w 71 i0 (.agg #[O,(),O]) 3 32 underlying65 ac bu bv bw I Z (.slice l d.length m) d.length (Cb d) I (dp.q _) wr 1 1 [.int .i64 n,.string G,.int .i64 u] I I di.q dm.q Z (by unfold maxLen;omega) Z (by simp;omega) ((wr:Nat)+1) Y ?_;intro g Q j ci cc cy dg;have bg:=V (dr.q _ g Q j ci cc);have ce:=ap.q j bg.q.2;clear ci cc cy dg)))
     clear ce;go_wp2;go_meet;exact⟨d.length+1,some ⟨g,0,none⟩,Q,rfl,V ⟨cu.q.symm,bg.q.1,bg.q.2⟩⟩
    case rest=>
     obtain⟨b0,E,F,rfl,hcut⟩:=hcut;obtain⟨f,bd⟩:=Qyy (d++z);rw[bd]at hcut bc;obtain⟨dh,cj,am⟩:=hcut.q;subst dh;have dv:w<=wc.heap.size:=am.size;have b1:=(ap.q wc am).2.1;have bb:=dx.q wc (al.q.trans (am.mono ay)) (by have:=bn.q;have:=c2.q;omega);obtain⟨k,ax⟩:=Qyy (D9 D);rw[ax]at bb;have bo:U (D9 (ns.take (a+1))=f++k):=V (by rw[c4.q,<-bd,ax,Qp]);have d6:f.length+k.length<=1000000:=(by have:=bc.q;rw[ax,Qa]at this;exact this);have cv:=V bb;have dq:=V cj;have cz:=V am;clear bb ax bd cj am hcut;go_wp2_with (fail);apply cv.m;rintro e aw⟨a5,a8,rfl,N,W⟩;have ed:wc<=aw.heap.size:=W.size;have ae:U (aw.ownsRow w 71 3 (.slice E f.length F) f.length (Cb f)):=V (Bw.below dq.q W);have bk:U (Below w w aw):=V (cz.q.trans (W.mono dv));by_cases b5:k=[]
     ·subst b5;have bh:(a5=none/\a8=0)\/∃r,a5=some ⟨r,0,none⟩:=by
       rcases N.2 with ⟨t,_⟩|⟨r,cr,cs,t,_⟩
       ·injection t with e1 e2 e3;exact .inl ⟨e1,e3⟩
       injection t with e1;exact .inr ⟨r,e1⟩
      rw[Qi];have a0:U (D9 (ns.take (a+1))=f):=V (by rw[bo.q,Qbk]);rcases bh with ⟨rfl,rfl⟩|⟨r,rfl⟩
      ·clear N W;go_wp2_with (at_builtin;refine wpList_append_own_none I _ _ 65 I w 71 i0 3 underlying65 ac (.slice E f.length F) f.length (Cb f) I ae.q I ?_)
       go_roundw
       case rel=>exact⟨a+1,f.length,E,F,Z,by go_num,rfl,V ⟨by rw[a0.q],by rw[a0.q];exact ae.q,bk.q⟩⟩
       case measure=>exact Sj
      clear N W;go_wp2_with (at_builtin;refine wpList_append_own_at _ I _ _ 65 I w 71 i0 (.agg #[O,(),O]) 3 32 underlying65 ac bu bv bw I Z (.slice E f.length F) f.length (Cb f) I ae.q ⟨r,0,none⟩ 0 a8 [] I I (λo x R=>by simp at R) (λx R=>by simp at R) (by unfold maxLen;omega) Z Z ?_)
      intro cn a4 ar ao dk bi;have bp:a4.ownsRow w 71 3 cn f.length (Cb f):=(by simpa using ar);have du:∃a6 L,cn=.slice a6 f.length L:=by
       rcases bp.2 with ⟨t,b3⟩|⟨b2,L,d3,t,_⟩
       ·exact⟨none,0,by rw[t,b3]⟩
       exact⟨_,L,t⟩
      obtain⟨a6,L,rfl⟩:=du;have bl:U (Below w w a4):=V (Sqi bk.q ao Z (λav au=>(ae.q.lt av au).1));have bq:=V bp;clear ar bp ao dk bi;go_wp2;go_roundw
      case rel=>exact⟨a+1,f.length,a6,L,Z,by go_num,rfl,V ⟨by rw[a0.q],by rw[a0.q];exact bq.q,bl.q⟩⟩
      case measure=>exact Sj
     have cw:0<k.length:=Qbf.2 b5;have bh:∃r,a5=some ⟨r,0,none⟩:=by
      rcases N.2 with ⟨_,b3⟩|⟨r,cr,cs,t,_⟩
      ·omega
      injection t with e1;exact⟨r,e1⟩
     obtain⟨r,rfl⟩:=bh;have dj:U (∀o x,(Cb k)[o]?=some x->aw.cell? ((⟨r,0,none⟩:Addr).add o)=some x):=V (λo x dt=>World.ownsRow.cells N (g:=r) rfl o x dt);have dc:(Cb k).length=k.length*3:=N.1;have dn:U (∀x∈Cb k,x.oneCell'=true):=V (zla k);clear N W;go_wp2_with (at_builtin;refine wpList_append_lies _ I _ _ 65 I w 71 i0 (.agg #[O,(),O]) 3 32 underlying65 ac bu bv bw I Z (.slice E f.length F) f.length (Cb f) I ae.q ⟨r,0,none⟩ k.length a8 (Cb k) I dc dj.q dn.q cw (by unfold maxLen;omega) Z Z aw rfl ?_)
     intro b2 L a4 ar ao bi df;have bl:U (Below w w a4):=V (Sqi bk.q ao Z (λav au=>(ae.q.lt av au).1));have bq:=V ar;clear ar ao bi df;go_wp2;go_roundw
     case rel=>exact⟨a+1,f.length+k.length,some b2,L,Z,by go_num,rfl,V ⟨by rw[bo.q,Qa],by
      rw[bo.q];unfold Bw;rw[YF,Qa];exact bq.q,bl.q⟩⟩
     case measure=>exact Sj
   have da:a=ns.length:=Z;subst da;rw[Qbl]at P;obtain⟨ch,a1,M⟩:=P.q;have bs:=V P.q;clear P a1 M;go_wp2;go_ret;exact⟨l,m,by rw[<-bs.q.1];rfl,bs.q.2.1,bs.q.2.2⟩
mutual
theorem zd6:∀d:Pt,Ig d->Nb (Hr d)=[]
 |.mk h i j Ab _ _ _=>by
  intro a;simp only[Ig]at a;simp only[Hr,Nb];rw[if_neg Z,IJ Ab a.2.2.2];rfl
theorem IJ:∀f:List Pt,Dv f->D9 (Dh f)=[]
 |[]=>λ_=>by simp only[Dh,D9]
 |d::g=>by
  intro a;simp only[Dv]at a;simp only[Dh,D9];rw[zd6 d a.1,IJ g a.2];rfl
end
mutual
theorem zcx:∀(b:S.Ac) (d:Int) (n:Rn),Fx CT d b n->okB b->Nb n=Er d b
 |.at_ z x C i r A m=>by
  intro d n a f;cases n with
  |nd l D v E y o=>
   simp only[Fx]at a;simp only[okB]at f;obtain⟨rfl,rfl,rfl,rfl,rfl,a⟩:=a;obtain⟨F,G,p,H,K,L,M,t,u⟩:=f;simp only[Nb,Er];by_cases k:l=1\/l=2
   ·rw[if_pos k]at a;rw[a,IJ _ (Zg r),W9,p Z];simp only[Bf]
   rw[if_neg k]at a;rw[if_neg (λe=>k (.inr e)),if_neg (λe=>k (.inr e))];by_cases s:l=6
   ·rw[WT m _ o a (u s)]
   rw[Xx m _ o a (t Z)]
theorem Xx:∀(h:List S.Ac) (d:Int) (g:List Rn),Bb CT d h g->Gc h->D9 g=Bf d h
 |[]=>by
  intro d g a _;cases g with
  |nil=>simp only[D9,Bf]
  |cons n j=>simp only[Bb]at a
 |b::q=>by
  intro d g a f;cases g with
  |nil=>simp only[Bb]at a
  |cons n j=>
   simp only[Bb]at a;simp only[Gc]at f;simp only[D9,Bf];rw[zcx b d n a.1 f.1,Xx q d j a.2 f.2]
theorem WT:∀(h:List S.Ac) (d:Int) (g:List Rn),Bb CT d h g->Mg h->D9 g=Bf d h
 |[]=>by
  intro d g a _;cases g with
  |nil=>simp only[D9,Bf]
  |cons n j=>simp only[Bb]at a
 |b::q=>by
  intro d g a f;cases g with
  |nil=>simp only[Bb]at a
  |cons n j=>
   simp only[Bb]at a;simp only[Mg]at f;simp only[D9,Bf];rw[znz b d n a.1 f.1,WT q d j a.2 f.2]
theorem znz:∀(b:S.Ac) (d:Int) (n:Rn),Fx CT d b n->Ou b->Nb n=Er d b
 |.at_ z x C i r A m=>by
  intro d n a f;cases n with
  |nd l D v E y o=>
   simp only[Fx]at a;simp only[Ou]at f;obtain⟨rfl,rfl,rfl,rfl,rfl,a⟩:=a;obtain⟨rfl,rfl,p⟩:=f;rw[if_neg J]at a;simp only[Nb,Er];rw[Xx m _ o a p];rfl
end
theorem zih (l:List UInt8)(ns:List Rn)(a:Bb (λd ns=>Dn d [] 0 ns) 0 (S.Ag (l.length+1) (S.Aw l)).1 ns):D9 ns=Ih l:=by
 unfold Ih;exact Xx _ 0 ns (a.mono (λd ns a=>X0 d ns a)) (AA _ _)
mutual
theorem zb4:∀(b:S.Ac) (a:Int),120*(Er a b).length<=Eo b
 |.at_ f k n i m l Ab=>by
  intro a;have:=GI Ab (a+f);simp only[Er,Eo,Qa];split
  ·simp only[List.length_singleton];omega
  simp only[Qi];omega
theorem GI:∀(d:List S.Ac) (a:Int),120*(Bf a d).length<=Bo d
 |[]=>by intro a;simp[Bf]
 |b::g=>by
  intro a;have h:=zb4 b a;have j:=GI g a;simp only[Bf,Bo,Qa];omega
end
theorem FP (l:List UInt8)(g:l.length<=1500):(Ih l).length<=900000:=by
 have a:=GI (S.Ag (l.length+1) (S.Aw l)).1 0;have d:=S.L8 l;have f:=(Td (l.length+1) (S.Aw l) Z).2.1;unfold Ih;omega
theorem IU (s:Sb)(w:Sw)(q:s.size<=1500):Calls prog 51 #[s] w λe G=>e=.returned (.tuple #[(S.B (M8 s)),O])/\Below w w G:=by
 have z:=V (DK s w Z);have L:¬(1500:Int)<(s.size:Int):=Z;go_enter func51,ntmps51;go_wp2_with fail
 apply z.m;rintro e m⟨F,t,u,rfl,k,p,j⟩;have x:=V (DX s m q F t u w k.q.1 k.q.2 p);have A:=V j;have E:=j.size;clear p j k;go_wp2_with fail
 apply x.m;rintro e f⟨N,Q,P,K,a,rfl,d⟩;have M:=d.q.2.2.size;have h:Bb (λs a=>Dn s [] 0 a) 0 (S.Ag (s.data.toList.length+1) (S.Aw s)).1 a:=by rw[S.lda];exact d.q.2.1
 have l:=XE s (by rw[S.lda];exact q) a h;have g:=zo0 (λr=>r<f) f (λr v=>v) _ a d.q.1 f false Sr l.1 l.2;rw[zec s a h]at g;have y:=V g;have C:=V (A.q.trans (d.q.2.2.mono E));clear g l h d;go_wp2_with fail
 apply y.m;rintro e H⟨rfl,o⟩;have D:=V (C.q.trans (o.mono Z));clear o;go_wp2;go_ret2;exact⟨rfl,D.q⟩
theorem IY (s:Sb)(w:Sw)(o:s.size<=1500):Calls prog 52 #[s] w λe v=>∃(B:Nat) (f:So) (g:Nat),e=.returned (.tuple #[.slice f (Ih s).length g,O])/\U ((Ih s).length<=900000/\w.heap.size<=B/\Bw B f g (Ih s) v/\Below w w v):=by
 have F:=V (DK s w Z);have R:¬(1500:Int)<(s.size:Int):=Z;go_enter func52,ntmps52;go_wp2_with fail
 apply F.m;rintro e p⟨P,z,A,rfl,m,t,l⟩;have D:=V (DX s p o P z A w m.q.1 m.q.2 t);have G:=V l;have N:=l.size;clear t l m;go_wp2_with fail
 apply D.m;rintro e a⟨W,ab,aa,Q,d,rfl,h⟩;have T:=h.q.2.2.size;have k:Bb (λs d=>Dn s [] 0 d) 0 (S.Ag (s.data.toList.length+1) (S.Aw s)).1 d:=by rw[S.lda];exact h.q.2.1
 have M:=XE s (by rw[S.lda];exact o) d k;have j:=zke (λy=>y<a) a (λy C=>C) _ d h.q.1 a Sr Z;rw[zih s d k]at j;have r:=FP s (by rw[S.lda];exact o);have E:=V j;have K:=V r;have H:=V (G.q.trans (h.q.2.2.mono N));clear j M k h r;go_wp2_with fail
 apply E.m;rintro e x⟨f,g,rfl,u,q⟩;have L:U ((Ih s).length<=900000/\w.heap.size<=a.heap.size/\Bw a f g (Ih s) x/\Below w w x):=V ⟨K.q,Z,u,H.q.trans (q.mono Z)⟩;clear q u;go_wp2;go_ret2;exact⟨a,f,g,rfl,L⟩
theorem zg3 (s:Sb)(w:Sw)(d:1500<s.size):Calls prog 51 #[s] w λe a=>e=.returned (.tuple #[(),(1:Int)])/\w=a:=by
 have f:(1500:Int)<(s.size:Int):=Z;go_enter func51,ntmps51;go_wp2;go_ret2;exact⟨rfl,rfl⟩
theorem zh7 (s:Sb)(w:Sw)(d:1500<s.size):Calls prog 52 #[s] w λe a=>e=.returned (.tuple #[Sx,(1:Int)])/\w=a:=by
 have f:(1500:Int)<(s.size:Int):=Z;go_enter func52,ntmps52;go_wp2;go_ret2;exact⟨rfl,rfl⟩
theorem zkg (s:Sb)(w:Sw)(d:1500<s.size):Calls prog 39 #[s] w λe a=>e=.returned (.tuple #[Sx,(1:Int)])/\w=a:=by
 have f:(1500:Int)<(s.size:Int):=Z;go_enter func39,ntmps39;go_wp2;go_ret2;exact⟨rfl,rfl⟩
theorem Zl (D E:Nat)(o q:So)(u v:Nat)(l:List Tl)(w:Sw)(A:Bw D o u l w)(C:Bw E q v l w)(ac:l.length<=1000000):Calls prog 53 #[.slice o l.length u,.slice q l.length v] w λe N=>e=.returned true/\Below w w N:=by
 have F:=V A;have G:=V C;clear A C;go_enter func53,ntmps53;go_wp2;go_loopw [5] (λi wr=>∃a:Nat,a<=l.length/\i=.int .i64 a/\Below w w wr) (λi _=>l.length-(intOf i).toNat)
 case atStart=>exact⟨0,Qt _,rfl,Sr⟩
 case round=>
  obtain⟨a,ab,rfl,f⟩:=hrel;by_cases M:a<l.length
  ·obtain⟨g,k⟩:∃g,l[a]?=some g:=⟨l[a],Qg M⟩;obtain⟨P,rfl,R,K,r,s,t⟩:=AO F.q a g k;obtain⟨Q,rfl,T,L,x,y,z⟩:=AO G.q a g k;obtain⟨ae,af,ag⟩:=g;have m:∀d h,d<w.heap.size->wr.cell? ⟨d,h,none⟩=w.cell? ⟨d,h,none⟩:=λd h H=>f.cell (p:=⟨d,h,none⟩) H;rw[<-m _ _ K]at r s t;rw[<-m _ _ L]at x y z;dsimp only at r s t x y z;have aa:(a:Int)<(l.length:Int):=Z;have W:(0:Int)<=(a:Int):=Z;have j:=V f;clear f m k;go_wp2_with (fail);go_region
   go_wp2;go_roundw
   case rel=>exact⟨a+1,Z,by go_num,j.q.drew⟩
   case measure=>exact Sj
  obtain rfl:a=l.length:=Z;have j:=V f;clear f;go_wp2;go_ret;exact⟨rfl,j.q⟩
theorem za3 (s:Sb)(w:Sw)(l:Cv w w):Calls prog 29 #[s] w λe m=>e=.returned true/\Below w w m:=by
 by_cases t:s.size<=1500
 ·have f:=V (zmm s w t l);obtain⟨g,h⟩:=Qyy (S.B (M8 s));rw[h]at f;have j:U (∀d,Calls prog 51 #[s] d λe m=>e=.returned (.tuple #[g,O])/\Below d.heap.size d m):=V (λd=>by rw[<-h];exact IU s d t);clear l h;go_enter func29,ntmps29;go_wp2_with fail
  apply f.m;rintro e o⟨rfl,k⟩;have u:=V k;have x:=k.size;clear k;go_wp2_with fail
  refine(j.q o).mono ?_;rintro e p⟨rfl,r⟩;have v:=V (u.q.trans (r.mono x));have a:=V (Ov 0 p);clear r;go_wp2_with fail
  apply a.m;rintro e q⟨rfl,rfl⟩;go_wp2_with fail
  apply a.m;rintro e q⟨rfl,rfl⟩;go_wp2;go_ret;exact⟨rfl,v.q⟩
 have f:=V (zfu s w Z);have j:=V (zg3 s w Z);have a:=V (Ov 1 w);clear l;go_enter func29,ntmps29;go_wp2_with fail
 apply f.m;rintro e o⟨rfl,rfl⟩;go_wp2_with fail
 apply j.m;rintro e p⟨rfl,rfl⟩;go_wp2_with fail
 apply a.m;rintro e q⟨rfl,rfl⟩;go_wp2_with fail
 apply a.m;rintro e q⟨rfl,rfl⟩;go_wp2;go_ret;exact⟨rfl,Sr⟩
