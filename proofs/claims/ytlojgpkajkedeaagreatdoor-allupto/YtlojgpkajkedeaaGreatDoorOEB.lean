import Derived.Test.YtlojgpkajkedeaaGreatDoorOPI
import Derived.ChangeKeysEq
set_option maxHeartbeats 0
set_option maxRecDepth 100000
namespace Go.Proofs.YtlojgpkajkedeaaGreatDoor
open Go.RowKit Go.Proofs.Tryz
def Src (b j h g:Nat)(f:List ByteArray)(ps:List (S.Ac×Value×Ext)):Prop:=∀(i:Nat) (d:S.Ac×Value×Ext),ps[i]?=some d->∃a:Nat,a<f.length/\d.1=(S.A8 (S.Ag g) ((dat f).drop a)).1.put (a:Int)/\d.2.2=⟨some (b (j+a)),(S.A8 (S.Ag g) ((dat f).drop a)).2,h-a⟩
theorem Src.snoc {b h f g:Nat}{d:List ByteArray}{ps:List (S.Ac×Value×Ext)}(l:Src b h f g d ps)(k:Nat)(p:k<d.length)(B:S.Ac×Nat)(j:S.A8 (S.Ag g) ((dat d).drop k)=B)(kv:Value):Src b h f g d (ps++[(B.1.put (k:Int),kv,(⟨some (b (h+k)),B.2,f-k⟩:Ext))]):=by
 intro i q a;by_cases o:i<ps.length
 ·rw[Qbd o]at a;exact l i q a
 rw[Qu Z]at a;have m:i-ps.length=0:=by have:=(Qb.1 a).1;simp at this;omega
 rw[m]at a;simp at a;subst a;exact⟨k,p,by rw[j],by rw[j]⟩
def Xq (b k j f:Nat)(d:List ByteArray)(w:Sw)(v:Value):Prop:=∀(i:Nat) (h:S.Ac),(S.Ag (f+1) (dat d)).1[i]?=some h->∃(a g n c:Nat),v=.slice (some g) n c/\a<d.length/\h=(S.A8 (S.Ag f) ((dat d).drop a)).1.put (a:Int)/\w.cell? (g (i*8+2))=some (.slice (some (b (k+a))) (S.A8 (S.Ag f) ((dat d).drop a)).2 (j-a))
theorem zbw {w:Sw}{B:Nat}{v:Value}{ps:List (S.Ac×Value×Ext)}{b q p k:Nat}{j:List ByteArray}(l:w.ownsRow B 110 8 v ps.length (cellsOf ps))(y:Src b q p k j ps):∀(i:Nat) (o:S.Ac),(ps.map Prod.fst)[i]?=some o->∃(a g n c:Nat),v=.slice (some g) n c/\a<j.length/\o=(S.A8 (S.Ag k) ((dat j).drop a)).1.put (a:Int)/\w.cell? (g (i*8+2))=some (.slice (some (b (q+a))) (S.A8 (S.Ag k) ((dat j).drop a)).2 (p-a)):=by
 intro i o d;rw[SA]at d;cases f:ps[i]? with
 |none=>rw[f]at d;simp at d
 |some h=>
  rw[f]at d;simp at d;subst d;rcases l.2 with ⟨m,t⟩|⟨g,A,C,m,t,D,E,F,G,H⟩
  ·have:=(Qb.1 f).1;omega
  obtain⟨a,x,r,s⟩:=y i h f;refine⟨a,g,_,_,m,x,r,?_⟩;have z:=MG ps i 2 h f Z;have:=l.cells (g:=g) (by rw[m];rfl) (8*i+2) (.slice h.2.2.la h.2.2.ln h.2.2.lc) (by rw[z];rfl);have u:(g:Addr).add (8*i+2)=⟨g,i*8+2,none⟩:=by
   simp only[Addr.add];split;·rename_i l;simp<;>omega
   simp<;>omega
  rw[u,s]at this;exact this
theorem zlz (l:Nat)(a4:Oa l)(a3:Xd l)(b h g:Nat)(d:List ByteArray)(w:Sw)(ck:d.length<=g)(a7:b<w)(aa:Cx w b h d)(bs:Env w)(hd:bytes (dat d)<l+1):Calls prog 64 #[.slice (some (b h)) d.length g] w λe k=>∃N,e=.returned (.tuple #[N,.bool (S.Ag (l+1) (dat d)).2])/\Co k (λz=>w.heap.size<=z/\z<k) N (S.Ag (l+1) (dat d)).1/\Below w w k/\Xq b h g l d k N:=by
 have cy:=aa.2;have cr:=aa.len;obtain⟨i0,bu,cd,ce,cf⟩:=info_parts Tryz.IC;have au:=S.Ru (dat d);rw[Cq]at au;obtain⟨ae,an⟩:=Qyy (S.Az (dat d));have bl:U (Calls prog 84 #[.slice (some (b h)) d.length g] w λe k=>e=.returned ae/\w=k):=V ((Px b h g d w Z aa.row).mono (λe k ⟨o,C⟩=>⟨by rw[o,an],C.symm⟩));have ca:U (Ue l w d ae d.length [] (.slice none 0 0) false w):=V ⟨by rw[<-an];unfold S.Ag;rw[Cq];simp,Z,Sqg _ _ _ _,by intro i af p;simp at p,Sr,Y⟩;rw[an]at au;have b9:U (Src b h g l d []):=V (λi af p=>by simp at p);have bp:=V a4;have bn:=V a3;clear an a4 a3;go_enter func64,ntmps64;go_wp2_with (go_at_call 84;apply bl.m;rintro e k⟨rfl,rfl⟩)
 go_loopw [2,3,4,5,6,7] (λN af aq _ _ _ wr=>∃(a r:Nat) (f:List (S.Ac×Value×Ext)) (x:So) (y:Nat) (ag:Bool),a<=d.length/\N=.slice x f.length y/\af=.bool ag/\aq=.int .i64 a/\Ue l w d a r f N ag wr/\Src b h g l d f) (λ_ _ aq _ _ _ _=>d.length-(intOf aq).toNat)
 case atStart=>exact⟨ae,d.length,[],none,0,false,au,rfl,rfl,rfl,ca.q,b9.q⟩
 case round=>
  obtain⟨a,r,f,x,y,ag,cn,rfl,rfl,rfl,ax,bg⟩:=hrel;have m:=V ax;have bh:=V bg;clear bg;have cw:w<=wr.heap.size:=ax.below.size;clear ax;by_cases b0:a<d.length
  ·obtain⟨E,F,ak⟩:∃E F,d.drop a=E::F:=by
    cases p:d.drop a with
    |nil=>have:=congrArg List.length p;rw[Qf]at this;simp at this;omega
    |cons E F=>exact⟨E,F,rfl⟩
   have az:d.length-a=F.length+1:=by have:=congrArg List.length ak;rw[Qf]at this;simpa using this
   have co:a<g:=Z;obtain⟨B,Q⟩:=Qyy (S.A8 (S.Ag l) ((dat d).drop a));have W:(dat d).drop a=dat (E::F):=by rw[<-Rh,ak]
   have ac:=S.Tk (S.Ag l) E.data.toList (dat F);have cb:1<=B.2/\B.2<=d.length-a:=by
    rw[<-Q,W,az];have C:=ac.2;rw[Qd,Cq]at C;exact⟨ac.1,C⟩
   obtain⟨ct,cv⟩:=cb;have bo:U (Calls prog 85 #[.slice (some (b (h+a))) (d.length-a) (g-a)] wr λe k=>∃H,e=.returned (.tuple #[Gz B.1 H,B.2])/\Co k (λz=>wr.heap.size<=z/\z<k) H B.1.Ab/\Below wr wr k):=V (by
    have ao:=(aa.below m.q.below a7).drop a;rw[ak]at ao;have:=LA l bp.q bn.q b (h+a) (g-a) E F wr Z Z ao (bs.below m.q.below) (by
     rw[<-W];have:=Nw (dat d) a;omega)
    rw[<-W,Q,<-az]at this;exact this)
   have a2:=V Q;have bc:U ((dat d).drop a≠[]):=V (by rw[W];simp[dat]);have ap:U (∀H,Src b h g l d (f++[(B.1.put (a:Int),H,(⟨some (b (h+a)),B.2,g-a⟩:Ext))])):=V (λH=>bh.q.snoc a b0 B Q H);clear az ak W ac Q;go_wp2_with (fail);apply bo.m;rintro e v⟨H,rfl,ay,aj⟩;obtain⟨s,u,t,rfl⟩:=ay.form;have bd:v.ownsRow w 110 8 (.slice x f.length y) f.length (cellsOf f):=m.q.own.kept (Below.Ll aj) (by
    cases p:(Value.slice x f.length y).ownBlock with
    |none=>exact .inl rfl
    |some A=>exact .inr Y)
   have b4:U (∀G a0,Below v v G->(G.alloc a0).ownsRow w 110 8 (.slice x f.length y) f.length (cellsOf f)):=V (λG a0 cc=>(bd.kept (Below.Ll cc) (by
    cases p:(Value.slice x f.length y).ownBlock with
    |none=>exact .inl rfl
    |some A=>exact .inr Y)).alloc a0)
   have b2:U (∀(G:Sw),G.heap.size=(v:Nat)+1->∀M K,(six (B.1.put (a:Int),.slice s u t,(⟨some (b (h+a)),B.2,g-a⟩:Ext)))[M]?=some K->(G.alloc (.cells #[B.1.kind,a,.slice (some (b (h+a))) B.2 (g-a),B.1.n,(S.B B.1.info),(S.B B.1.text),B.1.Ai,.slice s u t] 110)).cell? ((((v:Nat)+1) 0:Addr).add M)=some K):=V (by
    intro G ac M K bv;have bq:(((v:Nat)+1) 0:Addr).add M=⟨G.heap.size,M,none⟩:=by
     rw[ac];simp only[Addr.add];split;·rename_i p;simp<;>omega
     simp<;>omega
    rw[bq];exact X (Ak _ _) M K (by rw[<-bv];simp[six,S.Ac.Vq,S.Ac.DL,S.Ac.ED,S.Ac.Zj,S.Ac.EI,S.Ac.EF]))
   have b3:U (∀K∈six (B.1.put (a:Int),.slice s u t,(⟨some (b (h+a)),B.2,g-a⟩:Ext)),K.oneCell'=true):=V (by
    intro K bi;simp[six]at bi;rcases bi with rfl|rfl|rfl|rfl|rfl|rfl|rfl|rfl<;>rfl)
   have cm:=m.q.count;have b7:=V ay;have br:=V aj;have cu:wr<=v.heap.size:=aj.size;clear ay aj bd;have cl:¬g=a:=Z;have cg:(0:Int)<=(a:Int):=Z;have ch:(a:Int)<=(a:Int)+(B.2:Int):=Z;have ci:(a:Int)+(B.2:Int)<=(g:Int):=Z;have cj:(0:Int)<=(a:Int)+(B.2:Int):=Z;have cz:IntKind.i64.wrap ((a:Int)+(B.2:Int))=(a:Int)+(B.2:Int):=by rw[Sqe];omega
   have cx:((a:Int)+(B.2:Int)).toNat=a+B.2:=Z;have cs:a+B.2-a=B.2:=Z;simp only[Gz];go_wp2_with (fail);go_region
   go_wp2_with (at_builtin;refine wpList_append_lies _ I _ _ 77 I w 110 i0 (.agg #[O,O,Sx,O,(),(),false,Sx]) 8 112 underlying77 bu cd ce cf I Z (.slice x f.length y) f.length (cellsOf f) I (b4.q _ _ ((Below.refl _ v).alloc (Qc _) _)) (((v:Nat)+1) 0) 1 1 (six (B.1.put (a:Int),.slice s u t,(⟨some (b (h+a)),B.2,g-a⟩:Ext))) I I (b2.q _ Y) b3.q Z (by unfold maxLen;omega) Z (by simp;omega) ((v:Nat)+1+1) Y ?_)
   intro A ah L bf ba a5 b1;have ab:=V (m.q.step br.q (B:=B.1.put (a:Int)) (by rw[S.Ac.AP];exact b7.q) bf ((((Below.refl _ v).alloc (Qc _) _).alloc Y _).drew) Y ba a5);have a6:Below w w L:=ab.q.2.2;have b8:=V (aa.below a6 a7);clear bf ba a5 b1 a6;by_cases bw:a+B.2<g
   ·skip
    have bm:S.Az (dat (d.drop (a+B.2)))<=d.length-(a+B.2):=(by have:=S.Ru (dat (d.drop (a+B.2)));rw[Cq,Qf]at this;exact this);obtain⟨j,am⟩:=Qyy (S.Az (dat (d.drop (a+B.2))));have R:U (Calls prog 84 #[.slice (some (b (h+(a+B.2)))) (d.length-(a+B.2)) (g-(a+B.2))] L λe k=>e=.returned j/\L=k):=V (by
     have ao:=b8.q.drop (a+B.2);have:=Px b (h+(a+B.2)) (g-(a+B.2)) (d.drop (a+B.2)) L (by rw[Qf];omega) ao.row;rw[Qf,am]at this;exact this.mono (λe k ⟨o,C⟩=>⟨o,C.symm⟩))
    rw[am]at bm;have D:U (S.Ag (l+1) (dat d)=((f++[(B.1.put (a:Int),Value.slice s u t,(⟨some (b (h+a)),B.2,g-a⟩:Ext))]).map Prod.fst++(S.rowFrom (S.Ag l) d.length (r-1) ((dat d).drop (a+B.2+j))).1,(if 0<j/\a+B.2+j<d.length then true else ag)||(S.rowFrom (S.Ag l) d.length (r-1) ((dat d).drop (a+B.2+j))).2)):=V (by
     rw[m.q.spec];obtain⟨P,av⟩:∃P,r=P+1:=⟨r-1,by have:=m.q.fuel;omega⟩;have ai:((dat d).drop a).drop B.2=dat (d.drop (a+B.2)):=(by rw[Qbb,Rh]);have ar:((dat d).drop a).drop (B.2+j)=(dat d).drop (a+B.2+j):=(by rw[Qbb];congr 1;omega);have aw:((d.length-((dat d).drop a).length:Nat):Int)=(a:Int):=(by rw[Qf,Cq];omega);rw[av,S.Mf _ _ _ _ bc.q,a2.q,aw,ai,am,ar,SF];have bk:((dat d).drop (a+B.2+j)).isEmpty=decide (¬a+B.2+j<d.length):=by
      rw[SC,List.isEmpty_iff,List.drop_eq_nil_iff,Cq,Sd];omega
     rw[bk];by_cases T:0<j/\a+B.2+j<d.length
     ·rw[if_pos T,Sl T.1,Si (not_not_intro T.2)];simp
     rw[if_neg T];have:(decide (0<j)&&!decide (¬a+B.2+j<d.length))=false:=by
      rw[Bool.and_eq_false_iff];by_cases a1:0<j
      ·exact .inr (by have:¬a+B.2+j<d.length:=λp=>T ⟨a1,p⟩;simp[this])
      exact .inl (Si a1)
     rw[this];simp)
    clear am;by_cases a9:0<j
    ·by_cases bb:a+B.2+j<d.length
     ·rw[if_pos ⟨a9,bb⟩]at D;go_wp2_with (go_at_call 84;apply R.m;rintro e k⟨rfl,rfl⟩)
      go_roundw
      case rel=>
       refine⟨a+B.2+j,r-1,f++[(B.1.put (a:Int),Value.slice s u t,(⟨some (b (h+a)),B.2,g-a⟩:Ext))],some A,ah,_,Z,by rw[Qa];rfl,rfl,by go_num,?_,ap.q _⟩;have q:=ab.q;have e:(f++[(B.1.put (a:Int),Value.slice s u t,(⟨some (b (h+a)),B.2,g-a⟩:Ext))]).length=f.length+1:=Y;have o:=q.2.1;refine⟨D.q,by have:=m.q.fuel;omega,?_,q.1,q.2.2,by rw[e];omega⟩;rw[e]at o ⊢;exact o
      case measure=>exact Sj
     rw[if_neg (λp=>bb p.2)]at D;go_wp2_with (go_at_call 84;apply R.m;rintro e k⟨rfl,rfl⟩)
     go_roundw
     case rel=>
      refine⟨a+B.2+j,r-1,f++[(B.1.put (a:Int),Value.slice s u t,(⟨some (b (h+a)),B.2,g-a⟩:Ext))],some A,ah,_,Z,by rw[Qa];rfl,rfl,by go_num,?_,ap.q _⟩;have q:=ab.q;have e:(f++[(B.1.put (a:Int),Value.slice s u t,(⟨some (b (h+a)),B.2,g-a⟩:Ext))]).length=f.length+1:=Y;have o:=q.2.1;refine⟨D.q,by have:=m.q.fuel;omega,?_,q.1,q.2.2,by rw[e];omega⟩;rw[e]at o ⊢;exact o
     case measure=>exact Sj
    rw[if_neg (λp=>a9 p.1)]at D;go_wp2_with (go_at_call 84;apply R.m;rintro e k⟨rfl,rfl⟩)
    go_roundw
    case rel=>
     refine⟨a+B.2+j,r-1,f++[(B.1.put (a:Int),Value.slice s u t,(⟨some (b (h+a)),B.2,g-a⟩:Ext))],some A,ah,_,Z,by rw[Qa];rfl,rfl,by go_num,?_,ap.q _⟩;have q:=ab.q;have e:(f++[(B.1.put (a:Int),Value.slice s u t,(⟨some (b (h+a)),B.2,g-a⟩:Ext))]).length=f.length+1:=Y;have o:=q.2.1;refine⟨D.q,by have:=m.q.fuel;omega,?_,q.1,q.2.2,by rw[e];omega⟩;rw[e]at o ⊢;exact o
    case measure=>exact Sj
   have cp:d.length<=a+B.2:=Z;have cq:a+B.2<=d.length:=Z;obtain rfl:g=a+B.2:=Z;have R:U (Calls prog 84 #[.slice (some (b h)) 0 0] L λe k=>e=.returned O/\L=k):=V (by
    have:=Px b h 0 [] L Y (λi E p=>by simp at p);exact this.mono (λe k ⟨o,C⟩=>⟨o,C.symm⟩))
   have D:U (S.Ag (l+1) (dat d)=((f++[(B.1.put (a:Int),Value.slice s u t,(⟨some (b (h+a)),B.2,a+B.2-a⟩:Ext))]).map Prod.fst++(S.rowFrom (S.Ag l) d.length (r-1) ((dat d).drop (a+B.2))).1,ag||(S.rowFrom (S.Ag l) d.length (r-1) ((dat d).drop (a+B.2))).2)):=V (by
    rw[m.q.spec];obtain⟨P,av⟩:∃P,r=P+1:=⟨r-1,by have:=m.q.fuel;omega⟩;have ai:((dat d).drop a).drop B.2=[]:=(by rw[Qbb];exact Qw (by rw[Cq];omega));have ar:(dat d).drop (a+B.2)=[]:=Qw (by rw[Cq];omega);have aw:((d.length-((dat d).drop a).length:Nat):Int)=(a:Int):=(by rw[Qf,Cq];omega);rw[av,S.Mf _ _ _ _ bc.q,a2.q,aw,ai,ar,<-Qbb,ai];simp[S.Az])
   clear bw;go_wp2_with (go_at_call 84;apply R.m;rintro e k⟨rfl,rfl⟩)
   go_roundw
   case rel=>
    refine⟨a+B.2,r-1,f++[(B.1.put (a:Int),Value.slice s u t,(⟨some (b (h+a)),B.2,a+B.2-a⟩:Ext))],some A,ah,_,Z,by rw[Qa];rfl,rfl,by go_num,?_,ap.q _⟩;have q:=ab.q;have e:(f++[(B.1.put (a:Int),Value.slice s u t,(⟨some (b (h+a)),B.2,a+B.2-a⟩:Ext))]).length=f.length+1:=Y;have o:=q.2.1;refine⟨D.q,by have:=m.q.fuel;omega,?_,q.1,q.2.2,by rw[e];omega⟩;rw[e]at o ⊢;exact o
   case measure=>exact Sj
  have bx:a=d.length:=Z;have al:=m.q.spec;rw[Qw (by rw[Cq];omega),S.K6,Qbk,Bool.or_false]at al;have a8:=V al;have b6:U (Co wr (λz=>w.heap.size<=z/\z<wr) (.slice x f.length y) (f.map Prod.fst)):=V (Z5 m.q.own (λA bt=>m.q.own.lt A bt) (λi af b5=>(m.q.Ab i af b5).move (λz bj=>⟨bj.1,bj.2.1⟩) (λ_ _=>rfl)));have bz:U (Xq b h g l d wr (.slice x f.length y)):=V (by unfold Xq;rw[al];exact zbw m.q.own bh.q);clear al bx;go_wp2;go_ret2;refine⟨.slice x f.length y,?_,?_,m.q.below,bz.q⟩;·rw[a8.q];rfl
  rw[a8.q];exact b6.q
theorem zc5 (b:Nat)(f h:Int)(c:UInt8)(w:Sw)(a:w.heap[b]?=some (.cells #[.int .u64 f,.int .u64 h] 99 (0,0))):Calls prog 103 #[.pointer (some b),.int .u8 (c.toNat:Int)] w λe d=>e=.returned (.tuple #[])/\Below b w d/\∃g j,d.heap=((w.setCell b (.int .u64 g)).setCell (b 1) (.int .u64 j)).heap:=by
 have k:=X a 0 _ rfl;have l:=X a 1 _ rfl;have m:=Av a 0;have o:=Av a 1;have q:=c.toNat_lt;clear a;go_enter func103,ntmps103;go_wp2_with fail
 go_region
 go_wp2_with fail
 go_region
 go_wp2;go_end0;refine⟨rfl,?_,_,_,rfl⟩;repeat (first|exact Sr|refine Below.drew ?_|exact(Sr |>.setCell (p:=⟨b,0,none⟩) (Qc b) _).setCell (p:=⟨b,1,none⟩) (Qc b) _)
def Wo (w wr:Sw):Prop:=Below w w wr/\wr.heap.size=(w:Nat)+2/\(∃a d,wr.heap[w.heap.size]?=some (.cells #[.int .u64 a,.int .u64 d] 99 (0,0)))/\∃f g,wr.heap[(w:Nat)+1]?=some (.cells #[.int .u64 f,.int .u64 g] 99 (0,0))
theorem Wo.add {w wr:Sw}(o:Wo w wr)(c:UInt8):Calls prog 103 #[.pointer (some (((w:Nat)+1) 0)),.int .u8 (c.toNat:Int)] wr λe g=>e=.returned (.tuple #[])/\U (Wo w g):=by
 obtain⟨p,z,⟨f,t,q⟩,u,x,l⟩:=o;refine(zc5 ((w:Nat)+1) u x c wr l).mono ?_;rintro e g⟨rfl,r,v,y,j⟩;have m:∀(h:Addr) (f:Value) (k:Sw) (a:Nat),h.block≠a->(k.setCell h f).heap[a]?=k.heap[a]?:=λh f k a d=>Below.heap_setCell _ _ _ _ (λe=>d e.symm);have A:g.heap.size=wr.heap.size:=by rw[j];simp[World.setCell]
 have s:∀a,a≠(w:Nat)+1->g.heap[a]?=wr.heap[a]?:=λa d=>by
  rw[j,m _ _ _ _ (by simpa using λe=>d e.symm),m _ _ _ _ (by simpa using λe=>d e.symm)]
 refine⟨rfl,V ⟨?_,Z,⟨f,t,by rw[s _ Z];exact q⟩,v,y,?_⟩⟩;·exact p.trans (r.mono Z)
 rw[j];exact Aj (Aj l 0 _) 1 _
theorem zg6 (b m C:Nat)(f:List ByteArray)(w:Sw)(H:b<w)(z:Cx w b m f)(al:f.length<=1000000):Calls prog 76 #[.slice (some (b m)) f.length C] w λe M=>∃h j,e=.returned (.agg #[.int .u64 h,.int .u64 j])/\Below w w M:=by
 have A:=V z;clear z;go_enter func76,ntmps76;go_wp2;go_loopw [5,6,10] (λ_ _ i wr=>∃a:Nat,a<=f.length/\i=.int .i64 a/\U (Wo w wr)) (λ_ _ i _=>f.length-(intOf i).toNat)
 case atStart=>
  refine⟨0,Qt _,rfl,V ⟨(Sr.alloc (Qc _) _).alloc Y _,Y,⟨0,0,?_⟩,14695981039346656037,14695981039346656037,?_⟩⟩;·rw[Sqj _ _ _ Y];exact Ak _ _
  have:=Ak (w.alloc (Obj.cells #[Value.int IntKind.u64 0,Value.int IntKind.u64 0] 99)) (Obj.cells #[Value.int IntKind.u64 14695981039346656037,Value.int IntKind.u64 14695981039346656037] 99);simpa using this
 case round=>
  obtain⟨a,ak,rfl,l⟩:=hrel;by_cases K:a<f.length
  ·obtain⟨d,s⟩:∃d,f[a]?=some d:=⟨f[a],Qg K⟩;have x:=A.q.1 a d s;have am:=(A.q.row a d s).2;have ah:=(l.q.1.cell (p:=⟨b,m+a,none⟩) H).trans x;have af:(0:Int)<=(a:Int):=Z;have F:(a:Int)<(f.length:Int):=Z;clear x s;go_wp2;go_loopw [6,16] (λ_ i P=>∃g:Nat,g<=d.size/\i=.int .i64 g/\U (Wo w P)) (λ_ i _=>d.size-(intOf i).toNat)
   case atStart=>exact⟨0,Qt _,rfl,l⟩
   case round=>
    obtain⟨g,ai,rfl,u⟩:=hrel;by_cases aj:g<d.size
    ·have ag:(0:Int)<=(g:Int):=Z;have G:(g:Int)<(d.size:Int):=Z;have q:=V (u.q.add d[g]);go_wp2_with (fail);apply q.m;rintro e N⟨rfl,r⟩;go_wp2;go_roundw
     case rel=>exact⟨g+1,Z,by go_num,r⟩
     case measure=>exact Sj
    have G:¬(g:Int)<(d.size:Int):=Z;have q:=V (u.q.add 10);go_wp2_with (fail);apply q.m;rintro e N⟨rfl,r⟩;go_wp2;go_roundw
    case rel=>exact⟨a+1,Z,by go_num,r⟩
    case measure=>exact Sj
  have F:¬(a:Int)<(f.length:Int):=Z;obtain⟨t,E,⟨L,v,k⟩,h,j,o⟩:=l.q;have D:=V t;have T:=X o 0 _ rfl;have W:=X o 1 _ rfl;have ac:=Av k 0;have ae:=Av k 1;have aa:=X k 0 _ rfl;have ab:=X k 1 _ rfl;have an:w<wr.heap.size:=Z;have y:U (((wr.setCell w (.int .u64 h)).setCell (w 1) (.int .u64 j)).heap[w.heap.size]?=some (.cells #[.int .u64 h,.int .u64 j] 99 (0,0))):=V (Aj (Aj k 0 _) 1 _);clear t E k o l;go_wp2;refine Sqk (v:=.agg #[.int .u64 h,.int .u64 j]) (by have Q:=X y.q 0 (.int .u64 h) rfl;have R:=X y.q 1 (.int .u64 j) rfl;simp[results,results76,go_sem,Q,R]) rfl ⟨⟨h,j,rfl⟩,(D.q.setCell (Qc _) _).setCell (Qc _) _⟩
structure Pm where
 lb:Nat
 lo:Nat
 lc:Nat
 ss:List ByteArray
 x:Int
 y:Int
 at_:Int
 page:ByteArray
 tv:Value
def J8 (p:Pm):List Value:=[.slice (some (p.lb p.lo)) p.ss.length p.lc,.int .u64 p.x,.int .u64 p.y,.int .i64 p.at_,.string p.page,p.tv]
def U4 (w:Sw)(a:So)(ps:List Pm):Prop:=∀(i:Nat) (d:Pm),ps[i]?=some d->∃f,a=some ⟨f,0,none⟩/\f<w.heap.size/\(∀g h,(J8 d)[g]?=some h->w.cell? ⟨f,i*6+g,none⟩=some h)/\d.lb<w.heap.size/\Cx w d.lb d.lo d.ss/\d.ss.length<=1000000
theorem Tryz.zff:prog.cellsOf 97=1:=Sk
theorem Tryz.zau:(prog.info? 97).isSome=true:=Sk
theorem Tryz.VE:prog.eqGuardType prog.depth 99=false:=Sk
theorem KM (w:Sw)(a b c d:Int):(Op.equalIn 10000 99 (.agg #[.int .u64 a,.int .u64 b]) (.agg #[.int .u64 c,.int .u64 d])).run prog w=.ok ((a == c)&&(b == d)) w:=by
 obtain⟨i,h⟩:=Option.isSome_iff_exists.1 Tryz.zau;rw[show (10000:Nat)=9999+1 from rfl,run_equalIn_array w 9999 _ _ underlying99 h,Tryz.zff];simp only[show List.range 2=[0,1] from rfl,Op.eqItems,Sem.run_bind];simp[go_sem,underlying97];by_cases f:a=c<;>by_cases g:b=d<;>simp[f,g]
theorem ZB (ps:List Pm)(a:So)(ay:Nat)(u:Nat)(o:Pm)(w:Sw)(aq:U4 w a ps)(ap:Cx w o.lb o.lo o.ss)(bd:o.lb<w)(bt:o.ss.length<=1000000)(bq:ps.length<=1000000)(bo:u<=ps.length):Calls prog 77 #[.slice a ps.length ay,u,.agg (J8 o).toArray] w λe q=>∃ah:Int,e=.returned ah/\Below w w q/\((ah = -1)\/∃(j:Nat) (p:Pm),ah=j/\ps[j]?=some p/\p.ss=o.ss):=by
 have bf:=V aq;have bc:=V ap;clear aq ap;obtain⟨H,L,K,k,t,y,av,aw,ax⟩:=o;simp only[J8]at *;obtain⟨l,C⟩:=Qzz (w.alloc (.cells #[.slice (some (H L)) k.length K,.int .u64 t,.int .u64 y,av,aw,ax] 101));have aj:Below w w l:=by rw[C];exact Sr.alloc (Qc _) _
 have ai:l.heap[w.heap.size]?=some (.cells #[.slice (some (H L)) k.length K,.int .u64 t,.int .u64 y,av,aw,ax] 101 (0,0)):=by rw[C];exact Ak _ _
 have au:w<l.heap.size:=by rw[C];simp
 have a2:=V C;have ak:=V aj;have a3:=V ai;clear C aj ai;go_enter func77,ntmps77;go_wp2;rw[<-a2.q];go_loopw [7,8,11] (λ_ _ i wr=>∃g:Nat,g<=ps.length/\i=.int .i64 g/\U (Below l l wr)) (λ_ _ i _=>ps.length-(intOf i).toNat)
 case atStart=>exact⟨0,Qt _,rfl,V Sr⟩
 case round=>
  obtain⟨g,bp,rfl,v⟩:=hrel;by_cases br:g<ps.length
  ·obtain⟨d,T⟩:∃d:Nat,(u+g) % ps.length=d:=⟨_,rfl⟩;have a8:d<ps.length:=by rw[<-T];exact Nat.mod_lt _ Z
   obtain⟨p,W⟩:∃p,ps[d]?=some p:=⟨ps[d],Qg a8⟩;have f:Below w w wr:=ak.q.trans (v.q.mono Z);obtain⟨h,a4,M,D,an,ab,bb⟩:=bf.q d p W;obtain⟨ae,ag,af,m,s,x,bw,bx,bz⟩:=p;simp only[J8]at D an ab bb;subst a4;have bm:(0:Int)<=(d:Int):=Z;have a1:(d:Int)<(ps.length:Int):=Z;have bv:IntKind.i64.wrap ((u:Int)+(g:Int))=(u:Int)+(g:Int):=by rw[Sqe];omega
   have bs:¬(ps.length:Int)=0:=Z;have bu:((u:Int)+(g:Int)).tmod (ps.length:Int)=(d:Int):=by
    rw[Int.tmod_eq_emod_of_nonneg Z,<-T,Int.natCast_emod,Int.natCast_add]
   haveI bn:Nonempty (Bk wr):=⟨⟨wr,Sr⟩⟩;have R:h<wr:=Qh M f.size;have P:w<wr.heap.size:=Qh au v.q.size;have N:=(v.q.block w au).trans a3.q;have bg:∀kk:Bk wr,kk.w.cell? (h (d*6))=some (.slice (some (ae ag)) m.length af):=λkk=>(kk.h.cell (p:=⟨h,d*6,none⟩) R).trans ((f.cell (p:=⟨h,d*6,none⟩) M).trans (D 0 _ rfl));have bh:∀kk:Bk wr,kk.w.cell? (h (d*6+1))=some (.int .u64 s):=λkk=>(kk.h.cell (p:=⟨h,d*6+1,none⟩) R).trans ((f.cell (p:=⟨h,d*6+1,none⟩) M).trans (D 1 _ rfl));have bi:∀kk:Bk wr,kk.w.cell? (h (d*6+1+1))=some (.int .u64 x):=λkk=>(kk.h.cell (p:=⟨h,d*6+1+1,none⟩) R).trans ((f.cell (p:=⟨h,d*6+1+1,none⟩) M).trans (D 2 _ rfl));have bj:∀kk:Bk wr,kk.w.cell? w=some (.slice (some (H L)) k.length K):=λkk=>(kk.h.cell (p:=⟨w,0,none⟩) P).trans (X N 0 _ rfl);have bk:∀kk:Bk wr,kk.w.cell? (w 1)=some (.int .u64 t):=λkk=>(kk.h.cell (p:=⟨w,1,none⟩) P).trans (X N 1 _ rfl);have bl:∀kk:Bk wr,kk.w.cell? (w 2)=some (.int .u64 y):=λkk=>(kk.h.cell (p:=⟨w,2,none⟩) P).trans (X N 2 _ rfl);have A:U (∀kk:Bk wr,Calls prog 104 #[.slice (some (ae ag)) m.length af,.slice (some (H L)) k.length K] kk.w λe q=>e=.returned (.bool (decide (m=k)))/\Below wr wr q):=V (λkk=>by
    have al:=f.trans (kk.h.mono f.size);have az:=ab.below al an;have a0:=bc.q.below al bd;have am:∀(b ac:Nat) (z:List ByteArray),Cx kk.w b ac z->∀j,j<z.length->kk.w.cell? (b (ac+j))=some (.string (z.getD j ByteArray.empty)):=λb ac z r j a6=>by
     have e:z[j]?=some (z.getD j ByteArray.empty):=(by rw[List.getD_eq_getElem?_getD,Qg a6];rfl);exact r.1 j _ e
    have:=Tryz.slices_Equal_string ae ag m.length af H L k.length K m k kk.w (Qc _) (Qc _) Z Z (am _ _ _ az) (am _ _ _ a0);refine this.mono ?_;rintro e q⟨rfl,n,rfl⟩;exact⟨by rw[Qbl,Qbl],below_drewN kk.h _⟩)
   have a9:=V W;have Q:U (∀kk:Bk wr,Below l l kk.w/\Below w w kk.w):=V (λkk=>⟨v.q.trans (kk.h.mono v.q.size),f.trans (kk.h.mono f.size)⟩);clear D N T W f ab;by_cases aa:s=t/\x=y
   ·obtain⟨rfl,rfl⟩:=aa;have a5:=Tryz.VE;have ba:∀kk:Bk wr,(Op.equalIn 10000 99 (.agg #[.int .u64 s,.int .u64 x]) (.agg #[.int .u64 s,.int .u64 x])).run prog kk.w=.ok true kk.w:=λkk=>by rw[KM];simp
    by_cases E:m=k
    ·have hd:decide (m=k)=true:=Sl E;rw[hd]at A;have a7:=V E;clear E hd;go_wp2_with (fail);refine I6 Sk Sk ?_;repeat (go_big_quiet_step ((rename_i kk;exact(A.q kk).mono (λe q r=>⟨r.1,⟨q,r.2⟩,rfl⟩))))
     refine wpQuiet_nil ?_;intro _ F;obtain⟨kq,G⟩:=F;subst G;go_wp2;go_ret;exact⟨(d:Int),rfl,(Q.q kq).2,.inr ⟨d,_,rfl,a9.q,a7.q⟩⟩
    have hd:decide (m=k)=false:=Si E;rw[hd]at A;clear E hd;go_wp2_with (fail);refine I6 Sk Sk ?_;repeat (go_big_quiet_step ((rename_i kk;exact(A.q kk).mono (λe q r=>⟨r.1,⟨q,r.2⟩,rfl⟩))))
    refine wpQuiet_nil ?_;intro _ F;obtain⟨kq,G⟩:=F;subst G;go_wp2;go_roundw
    case rel=>exact⟨g+1,Z,by go_num,V (Q.q kq).1⟩
    case measure=>exact Sj
   have ao:((s == t)&&(x == y))=false:=by
    rw[Bool.and_eq_false_iff];by_cases ar:s=t
    ·exact .inr (by rw[Qe];exact λe=>aa ⟨ar,e⟩)
    exact .inl (by rw[Qe];exact ar)
   have a5:=Tryz.VE;have ba:∀kk:Bk wr,(Op.equalIn 10000 99 (.agg #[.int .u64 s,.int .u64 x]) (.agg #[.int .u64 t,.int .u64 y])).run prog kk.w=.ok false kk.w:=λkk=>by rw[KM,ao]
   clear A aa ao;go_wp2_with (fail);refine I6 Sk Sk ?_;repeat (go_big_quiet_step (fail))
   refine wpQuiet_nil ?_;intro _ F;obtain⟨kq,G⟩:=F;subst G;go_wp2;go_roundw
   case rel=>exact⟨g+1,Z,by go_num,V (Q.q kq).1⟩
   case measure=>exact Sj
  have a1:¬(g:Int)<(ps.length:Int):=Z;have f:U (Below w w wr):=V (ak.q.trans (v.q.mono Z));go_wp2;go_ret;exact⟨-1,rfl,f.q,.inl rfl⟩
theorem zdh (w:Sw)(a:Addr)(f:Value):w.grownBy (w.setCell a f) (some a.block):=
 ⟨rfl,rfl,rfl,by simp[World.setCell],λg _ d=>Below.heap_setCell _ _ _ _ (λe=>d (by rw[e]))⟩
theorem Bw.set {B:Nat}{a:So}{d:Nat}{l:List Tl}{w:Sw}(f:Bw B a d l w)(p:Addr)(g:Value)(k:p.block<B):Bw B a d l (w.setCell p g):=
 World.ownsRow.kept f (zdh w p g) (by
  cases j:(Value.slice a l.length d).ownBlock with
  |none=>exact .inl rfl
  |some h=>
   refine .inr (λe=>?_);have:=(World.ownsRow.lt f h j).1;injection e with e
   omega)
theorem YK (z a:Int)(b:S.Ac):(b.put z).put a=b.put a:=by cases b;rfl
theorem BZ (a:Bool)(z:Int)(b:S.Ac):Gs Bg a (b.put z)=Gs Bg a b:=by cases b;simp only[S.Ac.put,Gs]
mutual
theorem RA:∀(b:S.Ac) (a:Int),120*(Er a b).length<=Eo b
 |.at_ f k n i m l Ab=>by
  intro a;have:=Y6 Ab (a+f);simp only[Er,Eo,Qa];split
  ·simp only[List.length_singleton];omega
  simp only[Qi];omega
theorem Y6:∀(d:List S.Ac) (a:Int),120*(Bf a d).length<=Bo d
 |[]=>by intro a;simp[Bf]
 |b::g=>by
  intro a;have h:=RA b a;have j:=Y6 g a;simp only[Bf,Bo,Qa];omega
end
theorem zl0 (d:Nat)(K L M N ay T:Value)(B:S.Ac)(G:So)(ln H:Nat)(v:So)(y x:Nat)(A:Nat->Prop)(w:Sw)(F:w.heap[d]?=some (.cells #[K,L,M,N,ay,T] 101 (0,0)))(C:∀a,A a->a<d)(ax:Co w A (.slice v y x) B.Ab)(ae:Cv d w)(ap:Gl B)(ar:Ee B.Ab)(aq:1<=B.kind/\B.kind<=6)(ba:Eo B<=100000000):Calls prog 78 #[.pointer (some d),.agg #[B.kind,B.line,.slice G ln H,B.n,(S.B B.info),(S.B B.text),B.Ai,.slice v y x]] w λe ak=>e=.returned (.tuple #[])/\Below d w ak/\∃l m q,w.heap.size<=q/\ak.heap[d]?=some (.cells #[K,L,M,N,(S.B (Gs Bg false B)),.slice l (Er 0 (B.put 0)).length m] 101 (0,0))/\Bw q l m (Er 0 (B.put 0)) ak:=by
 have aw:d<w:=by
  rcases Nat.lt_or_ge d w.heap.size with ab|ab
  ·exact ab
  rw[Array.getElem?_eq_none ab]at F;cases F
 obtain⟨s,R⟩:=Qzz (Obj.cells #[B.kind,O,.slice G ln H,B.n,(S.B B.info),(S.B B.text),B.Ai,.slice v y x] 110);obtain⟨g,E⟩:=Qzz ((w.alloc s).alloc s);have u:Below w w g:=by rw[E];exact(Sr.alloc (Qc _) _).alloc Y _
 have bd:g.heap.size=(w:Nat)+2:=by rw[E];simp
 have o:g.heap[(w:Nat)+1]?=some (.cells #[B.kind,O,.slice G ln H,B.n,(S.B B.info),(S.B B.text),B.Ai,.slice v y x] 110 (0,0)):=by
  rw[E,R];have:=Ak (w.alloc s) (Obj.cells #[B.kind,O,.slice G ln H,B.n,(S.B B.info),(S.B B.text),B.Ai,.slice v y x] 110);rw[R]at this;simpa using this
 have ah:Co g (λa=>A a\/a=(w:Nat)+1) (.slice (some (((w:Nat)+1) 0)) 1 1) [B.put 0]:=by
  refine .some ((w:Nat)+1) 0 1 [B.put 0] (λ_=>.slice v y x) (.inr rfl) Y ?_ ?_
  ·intro i bh r;have ag:i=0:=by have:=(Qb.1 r).1;simp at this;omega
   subst ag;simp at r;subst r;simp only[S.Ac.Vq,S.Ac.DL,S.Ac.ED,S.Ac.Zj,S.Ac.EI,S.Ac.EF];exact⟨X o 0 _ rfl,X o 1 _ rfl,⟨G,ln,H,X o 2 _ rfl⟩,X o 3 _ rfl,X o 4 _ rfl,X o 5 _ rfl,X o 6 _ rfl,X o 7 _ rfl⟩
  intro i bh r;have ag:i=0:=by have:=(Qb.1 r).1;simp at this;omega
  subst ag;simp at r;subst r;rw[S.Ac.AP];exact ax.move (λa f=>.inl f) (λa f=>u.block a (by have:=C a f;omega))
 have af:C9 [B.put 0]:=by simp only[C9];exact⟨(RL _ _).2 ap,trivial⟩
 have bb:Bo [B.put 0]=Eo B:=by simp only[Bo,Yl];omega
 have au:Ee [B.put 0]:=by simp only[Ee];exact⟨EP 0 B Z Z ar,trivial⟩
 have Q:=MI (λa=>A a\/a=(w:Nat)+1) (some (((w:Nat)+1) 0)) 1 1 [B.put 0] g (λa f=>by
  rcases f with f|f
  ·have:=C a f;omega
  ·omega) ah ((ae.below (u.mono Z)).mono Z) af Z (by
  intro b am;simp at am;subst am;rw[S.Ac.Vq];exact aq)
 rw[show Cy Bg false [B.put 0]=Gs Bg false B by simp only[Cy,Qbk,BZ]]at Q;obtain⟨z,av⟩:=Qyy (S.B (Gs Bg false B));rw[av]at Q ⊢;have a3:=V Q;have ai:Bf 0 [B.put 0]=Er 0 (B.put 0):=by simp only[Bf,Qbk]
 have a1:U (∀h,Below g g h->Calls prog 59 #[Sx,.slice (some (((w:Nat)+1) 0)) 1 1,O] (h.setCell (d 4) (.string z)) λe t=>∃l m n,e=.returned (.slice l n m)/\(t.heap[d]?=some (.cells #[K,L,M,N,z,T] 101 (0,0)))/\U (n=(Er 0 (B.put 0)).length/\Below d w t/\∃q,w.heap.size<=q/\Bw q l m (Er 0 (B.put 0)) t)):=V (λh k=>by
  obtain⟨j,D⟩:=Qzz (h.setCell (d 4) (.string z));rw[<-D];have bn:j.heap.size=h.heap.size:=by rw[D];simp[World.setCell]
  have bm:=k.size;have ac:Below d w j:=by
   have bf:Below d w g:=u.mono Z;have bg:Below d g h:=k.mono Z;rw[D];exact(bf.trans bg).setCell (p:=⟨d,4,none⟩) (Qc d) _
  have ao:∀a,a<g.heap.size->a≠d->j.heap[a]?=g.heap[a]?:=λa f a6=>by
   rw[D,Below.heap_setCell _ _ _ _ a6];exact k.block a f
  have a9:j.heap[d]?=some (.cells #[K,L,M,N,z,T] 101 (0,0)):=by
   rw[D];exact Aj ((k.block d Z).trans ((u.block d aw).trans F)) 4 _
  have bc:Co j (λa=>A a\/a=(w:Nat)+1) (.slice (some (((w:Nat)+1) 0)) 1 1) [B.put 0]:=ah.move (λa f=>f) (λa f=>by
   rcases f with f|f
   ·have:=C a f;exact ao a Z Z
   exact ao a Z Z)
  have:=OM (Bo [B.put 0]) [B.put 0] (Qc _) j (λa=>A a\/a=(w:Nat)+1) j (some (((w:Nat)+1) 0)) 1 1 none 0 [] 0 j (λa f=>by
   rcases f with f|f
   ·have:=C a f;omega
   ·omega) bc ((ae.below ac).mono Z) Sr (Qc _) (Sqg _ _ _ _) af au Z Z (by
   rw[SY,ai];have:=RA (B.put 0) 0;rw[Yl]at this;omega)
  rw[SY,ai]at this;refine this.mono ?_;rintro e t⟨l,m,rfl,W,aa,al⟩;have an:Below j j t:=Sqi Sr aa (Qc _) (λbo a5=>by simp[Value.ownBlock]at a5);exact⟨l,m,_,rfl,(an.block d Z).trans a9,V ⟨rfl,ac.trans (an.mono (by have:=ac.size;omega)),j,Z,W⟩⟩)
 have a8:U (∀h,Below g g h->h.heap[d]?=some (.cells #[K,L,M,N,ay,T] 101 (0,0))):=V (λh k=>(k.block d Z).trans ((u.block d aw).trans F));have a4:U (g=(w.alloc s).alloc s):=V E;have a7:=V R;clear Q F C ax ae ap ar aq ba ah af bb au o E av ai u R bd;go_enter func78,ntmps78;go_wp2_with fail
 rw[<-a7.q,<-a4.q];apply a3.m;rintro e h⟨rfl,k⟩;have a2:=V (a1.q h k);have aj:=a8.q h k;have bk:h.frozen? (d 4)=false:=Av aj 4;have bi:=X aj 4 _ rfl;clear k aj;go_wp2_with fail
 apply a2.m;rintro e t⟨l,m,n,rfl,P,a0⟩;have bl:t.frozen? (d 5)=false:=Av P 5;have bj:=X P 5 _ rfl;have az:=V P;clear P;go_wp2;go_end0;obtain⟨rfl,W,q,aa,al⟩:=a0.q;exact⟨rfl,W.setCell (p:=⟨d,5,none⟩) (Qc d) _,l,m,q,aa,Aj az.q 5 _,al.set _ _ (by show d<q;omega)⟩
