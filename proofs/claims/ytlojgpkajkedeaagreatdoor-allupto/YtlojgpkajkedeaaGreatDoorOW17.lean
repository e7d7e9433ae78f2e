import Derived.Test.YtlojgpkajkedeaaGreatDoorOStr5
set_option maxHeartbeats 0
set_option maxRecDepth 100000
namespace Go.Proofs.YtlojgpkajkedeaaGreatDoor
open Go.RowKit Go.Proofs.Tryz
theorem zco (b l j:Nat)(f:List ByteArray)(kind:UInt8)(w:Sw)(p:b<w)(q:Cx w b l f)(t:Env w):Calls prog 181 #[.slice (some (b l)) f.length j,.int .u8 (kind.toNat:Int)] w λe m=>
   ∃mk:S.Mark,e=.returned (.tuple #[.agg #[.int .u8 (mk.kind.toNat:Int),mk.Al,mk.Ao,mk.empty],.bool (S.Cj kind (dat f)).ok])/\U ((S.Cj kind (dat f)).ok=true->mk=S.Cj kind (dat f))/\Below w w m:=by
 cases f with
 |nil=>
  refine(UU _ j kind w).mono ?_;rintro e m⟨rfl,g⟩;exact⟨⟨0,0,0,false,false⟩,rfl,V (by intro s;simp[S.Cj,dat]at s),g⟩
 |cons a d=>
  have r:(a::d)[0]?=some a:=rfl;have u:a.size<=140737488355328:=by have:=J6 _ _ a r;have:=q.2;omega
  have o:=q.1 0 a r;rw[SL]at o;cases k:S.Ea a
  ·refine(ze2 b l (d.length+1) j kind a w Z u p o k t).mono ?_;rintro e m⟨rfl,g⟩;have h:S.Cj kind (dat (a::d)) = { S.Ae a.data.toList with ok:=(S.Ae a).ok&&decide ((S.Ae a).kind=kind) }:=by
    show S.Cj kind (a.data.toList::dat d)=_;simp[S.Cj,k]
   refine⟨{ S.Ae a.data.toList with ok:=(S.Ae a).ok&&decide ((S.Ae a).kind=kind) },by rw[h],V (λ_=>h.symm),g⟩
  refine(zjt b l (d.length+1) j kind a w Z (by unfold maxLen;omega) p o k).mono ?_;rintro e m⟨rfl,g⟩;have h:S.Cj kind (dat (a::d))=⟨0,0,0,false,false⟩:=by
   show S.Cj kind (a.data.toList::dat d)=_;simp[S.Cj,k]
  exact⟨⟨0,0,0,false,false⟩,by rw[h];rfl,V (λ_=>h.symm),g⟩
structure U6 (d:Nat)(w:Sw)(ss:List ByteArray)(x0:List UInt8)(k f:Nat)(s:Sb)(ps:List (S.Ac×Value×Ext))(a:So)(cp:Nat)(lo:Bool)(wr:Sw):Prop where
 at_:ss[k]?=some s
 ok:(S.Ae s).ok=true
 kind:(S.Ae s).kind=(S.Ae x0).kind
 spec:S.Bt (S.Ag d) (S.Ae x0).kind ss.length ss.length (S.Ae x0) (dat ss)=(ps.map Prod.fst++(S.Bt (S.Ag d) (S.Ae x0).kind ss.length f (S.Ae s) ((dat ss).drop k)).1,lo||(S.Bt (S.Ag d) (S.Ae x0).kind ss.length f (S.Ae s) ((dat ss).drop k)).2.1,k+(S.Bt (S.Ag d) (S.Ae x0).kind ss.length f (S.Ae s) ((dat ss).drop k)).2.2)
 fuel:ss.length-k<=f
 head:wr.heap[w.heap.size]?=some (.cells #[.int .u8 ((S.Ae s).kind.toNat:Int),.int .i64 (S.Ae s).Al,((S.Ae s).Ao:Nat),.bool (S.Ae s).empty] 186 (0,0))
 res:wr.heap[(w:Nat)+1]?=some (.cells #[O,O,Sx,O,(),(),false,Sx] 110 (0,0))
 list:wr.heap[(w:Nat)+2]?=some (.cells #[(6:Int),O,Sx,.int .i64 (S.Ae x0).Al,(),(),lo,.slice a ps.length cp] 110 (0,0))
 own:wr.ownsRow ((w:Nat)+3) 110 8 (.slice a ps.length cp) ps.length (cellsOf ps)
 Ab:∀(i:Nat) (p:S.Ac×Value×Ext),ps[i]?=some p->Co wr (λx=>(w:Nat)+3<=x/\x<wr.heap.size/\some x≠(Value.slice a ps.length cp).ownBlock) p.2.1 p.1.Ab
 below:Below w w wr
 count:ps.length<=k
 size:(w:Nat)+3<=wr.heap.size
def DU (d:Sw)(P:S.Mark->Prop)(more:Bool)(g h:Value)(f:Sw):Prop:=
 ∃(mk:S.Mark) (a:Nat),P mk/\g=.pointer (some a)/\h=.bool more/\d.heap.size<=a/\f.heap[a]?=some (.cells #[.int .u8 (mk.kind.toNat:Int),mk.Al,mk.Ao,mk.empty] 186 (0,0))/\Below d d f
def After (w w':Sw):Prop:=Below w w w'
theorem Yr {w:Sw} : After w w.drew:=Sr.drew
theorem LD {w:Sw}{a:Obj} : After w (w.alloc a).drew:=(Sr.alloc (Qc _) _).drew
theorem OL {w:Sw}{N d f:Nat}{v j k l m:Value}(g:w.cell? (d f)=some v)(h:N≠d):((((w.setCell N j).setCell (N 1) k).setCell (N 2) l).setCell (N 3) m).cell? (d f)=some v:=by
 rw[World.cell?_of_block (a:=⟨d,f,none⟩) (w:=w)];·exact g
 iterate 4 rw[Below.heap_setCell _ _ _ _ (by simpa using h.symm)]
theorem Vh {w:Sw}{a:Addr}{v:Value}(f:w.cell? a=some v)(g:a.block<w)(d:Obj):(w.alloc d).cell? a=some v:=by
 rw[((Below.refl w w).alloc (Qc _) d).cell (p:=a) g];exact f
theorem VF {a d:Sw}{P:S.Mark->Prop}{more:Bool}{mk:S.Mark}(g:P mk)(h:Below a.drew.heap.size a.drew d):DU a P more (.pointer (some d)) (.bool more) (d.alloc (.cells #[.int .u8 (mk.kind.toNat:Int),mk.Al,mk.Ao,mk.empty] 186)):=by
 have f:Below a a d:=Sr.drew.trans h;exact⟨mk,d,g,rfl,rfl,f.size,Ak _ _,f.alloc f.size _⟩
theorem KH {a d:Sw}{P:S.Mark->Prop}{more:Bool}{mk:S.Mark}(h:P mk)(f:Below (a.alloc (.cells #[.int .u8 0,O,O,false] 186)).drew.heap.size (a.alloc (.cells #[.int .u8 0,O,O,false] 186)).drew d):DU a P more (.pointer (some a)) (.bool more) ((((d.setCell a (.int .u8 (mk.kind.toNat:Int))).setCell (a 1) (.int .i64 mk.Al)).setCell (a 2) (.int .i64 (mk.Ao:Nat))).setCell (a 3) (.bool mk.empty)):=by
 have k:(a.alloc (.cells #[.int .u8 0,O,O,false] 186)).drew.heap.size=(a:Nat)+1:=Y;have g:d.heap[a.heap.size]?=some (.cells [.int .u8 0,.int .i64 0,.int .i64 0,.bool false].toArray 186 (0,0)):=by
  rw[f.block _ Z];exact Ak _ _
 have j:Below a a d:=((Sr.alloc (Qc _) _).drew).trans (f.mono Z);refine⟨mk,a,h,rfl,rfl,Qc _,Aj (Aj (Aj (Aj g 0 _) 1 _) 2 _) 3 _,?_⟩;exact Sqh (Sqh (Sqh (Sqh j Y _) Y _) Y _) Y _
def Mid (w wr:Sw)(j:List UInt8)(h:Bool)(ps:List (S.Ac×Value×Ext))(p:S.Ac×Value×Ext)(g cap1:Nat)(a:Sw):Prop:=
 a.heap[w.heap.size]?=wr.heap[w.heap.size]?/\a.heap[(w:Nat)+1]?=wr.heap[(w:Nat)+1]? /\
  a.heap[(w:Nat)+2]?=some (.cells #[(6:Int),O,Sx,.int .i64 (S.Ae j).Al,(),(),h,(Value.slice (some g) (ps.length+1) cap1)] 110 (0,0)) /\
  (∀(i:Nat) (d:S.Ac×Value×Ext),(ps++[p])[i]?=some d->Co a (λf=>(w:Nat)+3<=f/\f<a.heap.size/\some f≠some g) d.2.1 d.1.Ab) /\
  a.ownsRow ((w:Nat)+3) 110 8 (Value.slice (some g) (ps.length+1) cap1) (ps.length+1) (cellsOf ps++six p)/\Below w w a/\(w:Nat)+3<=a.heap.size
theorem zno {G:Nat}{w wr w2 f:Sw}{T:List ByteArray}{r:List UInt8}{k H j g cap1:Nat}{s:Sb}{ps:List (S.Ac×Value×Ext)}{a:So}{p:Bool}{B:S.Ac}{ln:Ext}{kv:Value}{C:Sw}
  (o:U6 G w T r k H s ps a j p wr) (x:Below wr wr w2) (P:Co w2 (λd=>wr.heap.size<=d/\d<w2) kv B.Ab)
  (M:f.ownsRow ((w:Nat)+3) 110 8 (Value.slice (some g) (ps.length+1) cap1) (ps.length+1) (cellsOf ps++six (B,kv,ln))) (D:Below w2 w2 C) (Q:C.heap.size=(w2:Nat)+1) (y:C.grownBy f (Value.slice a ps.length j).ownBlock)
  (l:(Value.slice a ps.length j).ownBlock=some g\/g=(w2:Nat)+1) :
  (f.setCell (((w:Nat)+2) 7) (Value.slice (some g) (ps.length+1) cap1)).heap[w.heap.size]?=wr.heap[w.heap.size]?/\(f.setCell (((w:Nat)+2) 7) (Value.slice (some g) (ps.length+1) cap1)).heap[(w:Nat)+1]?=wr.heap[(w:Nat)+1]? /\
  (f.setCell (((w:Nat)+2) 7) (Value.slice (some g) (ps.length+1) cap1)).heap[(w:Nat)+2]?=some (.cells #[(6:Int),O,Sx,.int .i64 (S.Ae r).Al,(),(),p,(Value.slice (some g) (ps.length+1) cap1)] 110 (0,0)) /\
  (∀(i:Nat) (q:S.Ac×Value×Ext),(ps++[(B,kv,ln)])[i]?=some q->Co (f.setCell (((w:Nat)+2) 7) (Value.slice (some g) (ps.length+1) cap1)) (λd=>(w:Nat)+3<=d/\d<(f.setCell (((w:Nat)+2) 7) (Value.slice (some g) (ps.length+1) cap1)).heap.size/\some d≠some g) q.2.1 q.1.Ab) /\
  (f.setCell (((w:Nat)+2) 7) (Value.slice (some g) (ps.length+1) cap1)).ownsRow ((w:Nat)+3) 110 8 (Value.slice (some g) (ps.length+1) cap1) (ps.length+1) (cellsOf ps++six (B,kv,ln))/\Below w w (f.setCell (((w:Nat)+2) 7) (Value.slice (some g) (ps.length+1) cap1))/\(w:Nat)+3<=(f.setCell (((w:Nat)+2) 7) (Value.slice (some g) (ps.length+1) cap1)).heap.size/\f.heap[(w:Nat)+2]?=some (.cells #[(6:Int),O,Sx,.int .i64 (S.Ae r).Al,(),(),p,.slice a ps.length j] 110 (0,0)):=by
 have u:=o.own.lt;have W:=o.size;have aa:=x.size;have ab:=y.size;have ae:=Q;have E:∀d,d<w2.heap.size->some d≠(Value.slice a ps.length j).ownBlock->f.heap[d]?=w2.heap[d]?:=by
  intro d h A;rw[y.block d Z A,D.block d h]
 have t:∀d,d<wr.heap.size->some d≠(Value.slice a ps.length j).ownBlock->f.heap[d]?=wr.heap[d]?:=by
  intro d h A;rw[E d Z A,x.block d h]
 have z:∀d,d<(w:Nat)+3->some d≠(Value.slice a ps.length j).ownBlock:=by
  intro d h e;have:=u d e.symm;omega
 have F:f.heap[(w:Nat)+2]?=some (.cells #[(6:Int),O,Sx,.int .i64 (S.Ae r).Al,(),(),p,.slice a ps.length j] 110 (0,0)):=by
  rw[t _ Z (z _ Z)];exact o.list
 have v:∀d,d≠(w:Nat)+2->(f.setCell (((w:Nat)+2) 7) (Value.slice (some g) (ps.length+1) cap1)).heap[d]?=f.heap[d]?:=λd h=>Below.heap_setCell _ _ _ _ h;have ac:(f.setCell (((w:Nat)+2) 7) (Value.slice (some g) (ps.length+1) cap1)).heap.size=f.heap.size:=by simp[World.setCell]
 refine⟨?_,?_,?_,?_,?_,?_,Z,F⟩;·rw[v _ Z,t _ Z (z _ Z)]
 ·rw[v _ Z,t _ Z (z _ Z)]
 ·exact Aj (cs:=[.int .i64 6,.int .i64 0,.slice none 0 0,.int .i64 (S.Ae r).Al,.string ⟨#[]⟩,.string ⟨#[]⟩,.bool p,.slice a ps.length j]) F 7 _
 ·intro i q m;by_cases L:i<ps.length
  ·rw[Qbd L]at m;refine(o.Ab i q m).move ?_ ?_
   ·intro d h;refine⟨h.1,Z,?_⟩;rcases l with l|l
    ·rw[<-l];exact h.2.2
    intro e;cases e;omega
   intro d h;rw[v d Z,t d h.2.1 h.2.2]
  rw[Qu Z]at m;have K:i-ps.length=0:=by have:=(Qb.1 m).1;simp at this;omega
  rw[K]at m;simp at m;subst m;refine P.move ?_ ?_
  ·intro d h;refine⟨Z,Z,?_⟩;intro e;rcases l with l|l
   ·have:=u g l;cases e;omega
   cases e;omega
  intro d h;rw[v d Z];refine E d h.2 (λe=>?_);have:=u d e.symm;omega
 ·exact ownsRow_setCell_below M Y _
 refine Sqh (Sqi ((o.below.trans (x.mono Z)).trans (D.mono Z)) y Z (λR N=>by have:=(u R N).1;omega)) Y _
theorem zlx (g:Nat)(w:Sw)(f:List ByteArray)(a:Sb)(k:f[0]?=some a)(j:(S.Ae a).ok=true):U6 g w f a 0 f.length a [] none 0 false (((w.alloc (.cells #[.int .u8 ((S.Ae a).kind.toNat:Int),.int .i64 (S.Ae a).Al,((S.Ae a).Ao:Nat),.bool (S.Ae a).empty] 186)).alloc (.cells #[O,O,Sx,O,(),(),false,Sx] 110)).alloc (.cells #[(6:Int),O,Sx,.int .i64 (S.Ae a).Al,(),(),false,Sx] 110)):=by
 refine⟨k,j,rfl,Y,Z,?_,?_,?_,Sqg _ _ _ _,by intro i l h;simp at h,?_,Y,Y⟩;·rw[Sqj _ _ _ (by simp;omega),Sqj _ _ _ Y];exact Ak _ _
 ·have d:(w.alloc (.cells #[.int .u8 ((S.Ae a).kind.toNat:Int),.int .i64 (S.Ae a).Al,((S.Ae a).Ao:Nat),.bool (S.Ae a).empty] 186)).heap.size=(w:Nat)+1:=Y;rw[Sqj _ _ _ Y,<-d];exact Ak _ _
 ·have d:((w.alloc (.cells #[.int .u8 ((S.Ae a).kind.toNat:Int),.int .i64 (S.Ae a).Al,((S.Ae a).Ao:Nat),.bool (S.Ae a).empty] 186)).alloc (.cells #[O,O,Sx,O,(),(),false,Sx] 110)).heap.size=(w:Nat)+2:=Y;rw[<-d];exact Ak _ _
 exact(((Below.refl _ w).alloc (Qc _) _).alloc Y _).alloc (by simp;omega) _
theorem V6 {w W:Sw}{d:Nat}{e:TypeId}{size:Nat}{v:Value}{n:Nat}{k:List Value}(o:w.ownsRow d e size v n k)(q:∀a,d<=a->a<w.heap.size->W.heap[a]?=w.heap[a]?):W.ownsRow d e size v n k:=by
 obtain⟨p,f⟩:=o;refine⟨p,?_⟩;rcases f with f|⟨g,l,m,r,h,j,s⟩
 ·exact Or.inl f
 exact Or.inr ⟨g,l,m,r,h,by rw[q g h (Qq.1 j).1];exact j,s⟩
theorem VJ {w f wc W:Sw}{g cap1:Nat}{ps:List (S.Ac×Value×Ext)}(j:Below f f wc)(o:∀a,(w:Nat)+3<=a->a<wc.heap.size->W.heap[a]?=wc.heap[a]?)(s:W.heap.size=wc.heap.size)
  (q:f.ownsRow ((w:Nat)+3) 110 8 (Value.slice (some g) ps.length cap1) ps.length (cellsOf ps))
  (p:∀(i:Nat) (d:S.Ac×Value×Ext),ps[i]?=some d->Co f (λa=>(w:Nat)+3<=a/\a<f.heap.size/\some a≠some g) d.2.1 d.1.Ab) :
  W.ownsRow ((w:Nat)+3) 110 8 (Value.slice (some g) ps.length cap1) ps.length (cellsOf ps)/\(∀(i:Nat) (d:S.Ac×Value×Ext),ps[i]?=some d->Co W (λa=>(w:Nat)+3<=a/\a<W.heap.size/\some a≠some g) d.2.1 d.1.Ab):=by
 have t:=j.size;have k:∀a,(w:Nat)+3<=a->a<f.heap.size->W.heap[a]?=f.heap[a]?:=λa l m=>(o a l Z).trans (j.block a m);exact⟨V6 q k,λi d r=>(p i d r).move (λa h=>⟨h.1,Z,h.2.2⟩) (λa h=>k a h.1 h.2.1)⟩
theorem zna {j:Nat}{w wr:Sw}{d:List ByteArray}{h:List UInt8}{k l E f n:Nat}{s:Sb}{ps:List (S.Ac×Value×Ext)}{a:So}{D:Bool}{C:S.Mark}{o:List (List UInt8)}{u:List S.Ac×Bool}{kv:Value}{ln:Ext}
  (t:U6 j w d h k l s ps a E D wr) (N:S.Ae s=C) (L:S.Ay C ((dat d).drop k)=o) (Q:S.Ag j o=u) (z:n=o.length) (M:S.Az ((dat d).drop (k+n))=f) (r:(S.Cj (S.Ae h).kind ((dat d).drop (k+n+f))).ok=true) :
  ∃g,d[k+n+f]?=some g/\S.Cj (S.Ae h).kind ((dat d).drop (k+n+f))=S.Ae g.data.toList/\(S.Ae g.data.toList).ok=true/\(S.Ae g.data.toList).kind=(S.Ae h).kind /\
   S.Bt (S.Ag j) (S.Ae h).kind d.length d.length (S.Ae h) (dat d)=((ps++[(S.Ac.at_ (k:Int) 7 0 [] [] false u.1,kv,ln)]).map Prod.fst++(S.Bt (S.Ag j) (S.Ae h).kind d.length (l-1) (S.Ae g.data.toList) ((dat d).drop (k+n+f))).1,(D||u.2||decide (0<f))||(S.Bt (S.Ag j) (S.Ae h).kind d.length (l-1) (S.Ae g.data.toList) ((dat d).drop (k+n+f))).2.1,k+n+f+(S.Bt (S.Ag j) (S.Ae h).kind d.length (l-1) (S.Ae g.data.toList) ((dat d).drop (k+n+f))).2.2):=by
 have W:=(Qb.1 t.at_).1;obtain⟨x,rfl⟩:∃x,l=x+1:=⟨l-1,by have:=t.fuel;omega⟩;obtain⟨m,q,p⟩:∃m q,(dat d).drop (k+n+f)=m::q:=by
  cases hd:(dat d).drop (k+n+f) with
  |nil=>rw[hd]at r;simp[S.Cj]at r
  |cons m q=>exact⟨m,q,rfl⟩
 obtain⟨v,H,K⟩:=S.O6 _ m q (by rw[<-p];exact r);have y:(dat d)[k+n+f]?=some m:=by
  have:=congrArg (λT=>T[0]?) p;simpa [List.getElem?_drop]using this
 rw[Iy]at y;obtain⟨g,R,rfl⟩:=Option.map_eq_some_iff.1 y;refine⟨g,R,by rw[p];exact v,K,H,?_⟩;have F:((dat d).drop k).drop o.length=(dat d).drop (k+n):=by rw[Qbb,z]
 have G:((dat d).drop k).drop (o.length+f)=(dat d).drop (k+n+f):=by rw[Qbb,z,Nat.add_assoc]
 have A:=t.spec;have P:((d.length-((dat d).drop k).length:Nat):Int)=(k:Int):=by rw[Qf,Cq];omega
 rw[N,S.Kv,L,Q,P,F,M,G,if_pos r,p,v,<-p]at A;rw[A,SF];refine Prod.ext Y (Prod.ext ?_ ?_);·simp[Bool.or_assoc]
 simp only[];omega
theorem zg0 {j:Nat}{w wr:Sw}{d:List ByteArray}{h:List UInt8}{k l v g n:Nat}{s:Sb}{ps:List (S.Ac×Value×Ext)}{a:So}{u:Bool}{t:S.Mark}{f:List (List UInt8)}{p:List S.Ac×Bool}{kv:Value}{ln:Ext}
  (m:U6 j w d h k l s ps a v u wr) (C:S.Ae s=t) (z:S.Ay t ((dat d).drop k)=f) (F:S.Ag j f=p) (o:n=f.length) (A:S.Az ((dat d).drop (k+n))=g) (E:(S.Cj (S.Ae h).kind ((dat d).drop (k+n+g))).ok=false) :
  S.Bt (S.Ag j) (S.Ae h).kind d.length d.length (S.Ae h) (dat d)=((ps++[(S.Ac.at_ (k:Int) 7 0 [] [] false p.1,kv,ln)]).map Prod.fst,u||p.2,k+n):=by
 have G:=(Qb.1 m.at_).1;obtain⟨q,rfl⟩:∃q,l=q+1:=⟨l-1,by have:=m.fuel;omega⟩;have x:((dat d).drop k).drop f.length=(dat d).drop (k+n):=by rw[Qbb,o]
 have y:((dat d).drop k).drop (f.length+g)=(dat d).drop (k+n+g):=by rw[Qbb,o,Nat.add_assoc]
 have r:=m.spec;have D:((d.length-((dat d).drop k).length:Nat):Int)=(k:Int):=by rw[Qf,Cq];omega
 rw[C,S.Kv,z,F,D,x,A,y,if_neg (by rw[E];simp)]at r;rw[r];refine Prod.ext Y (Prod.ext Y ?_);simp[o]
theorem EX {w:Sw}{N:Nat}(d f g h:Value)(b:Nat)(a:b≠N):((((w.setCell N d).setCell (N 1) f).setCell (N 2) g).setCell (N 3) h).heap[b]?=w.heap[b]?:=by
 iterate 4 rw[Below.heap_setCell _ _ _ _ (by simpa using a)]
theorem NK {w:Sw}{N:Nat}(a d f g:Value):((((w.setCell N a).setCell (N 1) d).setCell (N 2) f).setCell (N 3) g).heap.size=w.heap.size:=by simp[World.setCell]
theorem zcs {w:Sw}{N T:Nat}{u0 u1 u2 u3:Value}(h:w.heap[N]?=some (.cells [u0,u1,u2,u3].toArray T (0,0)))(a d f g:Value):((((w.setCell N a).setCell (N 1) d).setCell (N 2) f).setCell (N 3) g).heap[N]?=some (.cells #[a,d,f,g] T (0,0)):=
 Aj (Aj (Aj (Aj h 0 a) 1 d) 2 f) 3 g
theorem zhf {w:Sw}{N T:Nat}{u0 u1 u2 u3 u4 u5 u6 u7:Value}(m:w.heap[N]?=some (.cells [u0,u1,u2,u3,u4,u5,u6,u7].toArray T (0,0)))(a d f g h j k l:Value):((((((((w.setCell N a).setCell (N 1) d).setCell (N 2) f).setCell (N 3) g).setCell (N 4) h).setCell (N 5) j).setCell (N 6) k).setCell (N 7) l).heap[N]?=some (.cells #[a,d,f,g,h,j,k,l] T (0,0)):=
 Aj (Aj (Aj (Aj (Aj (Aj (Aj (Aj m 0 a) 1 d) 2 f) 3 g) 4 h) 5 j) 6 k) 7 l
theorem zl7 (L:Nat)(cj:Oa L)(b r k:Nat)(f:List ByteArray)(P:Sb)(w:Sw)(di:f[0]?=some P)(gc:f.length<=k)(ct:b<w)(bi:Cx w b r f)(cv:Env w)(hd:bytes (dat f)<=L)(c7:(S.Ae P).ok=true):Calls prog 122 #[.slice (some (b r)) f.length k,.agg #[.int .u8 ((S.Ae P).kind.toNat:Int),.int .i64 (S.Ae P).Al,((S.Ae P).Ao:Nat),.bool (S.Ae P).empty]] w λe j=>
   ∃kv,e=.returned (.tuple #[Gz (S.G9 (S.Ag L) (S.Ae P) (dat f)).1 kv,((S.G9 (S.Ag L) (S.Ae P) (dat f)).2:Nat)])/\Co j (λq=>w.heap.size<=q/\q<j) kv (S.G9 (S.Ag L) (S.Ae P) (dat f)).1.Ab/\Below w w j:=by
 have gt:=bi.2;have gl:=bi.len;obtain⟨i0,em,fg,fh,fi⟩:=info_parts Tryz.IC;have dk:=V (zlx L w f P di c7);have ea:=V cj;obtain⟨s,dn⟩:=Qzz (P.data.toList);rw[<-dn]at dk ⊢;have de:U (S.G9 (S.Ag L) (S.Ae s) (dat f)=(.mk 6 (S.Ae s).Al [] [] (S.Bt (S.Ag L) (S.Ae s).kind f.length f.length (S.Ae s) (dat f)).2.1 (S.Bt (S.Ag L) (S.Ae s).kind f.length f.length (S.Ae s) (dat f)).1,(S.Bt (S.Ag L) (S.Ae s).kind f.length f.length (S.Ae s) (dat f)).2.2)):=V (by rw[S.Lp,Cq]);clear di c7 dn cj;go_enter func122,ntmps122;go_wp2;go_loopw [7,8,9,10,11,12,13] (λb5 _ _ _ _ _ _ wr=>∃(a bk:Nat) (ae:Sb) (ps:List (S.Ac×Value×Ext)) (T:So) (aa:Nat) (t:Bool),b5=.int .i64 a/\U6 L w f s a bk ae ps T aa t wr) (λb5 _ _ _ _ _ _ _=>f.length-(intOf b5).toNat)
 case atStart=>exact⟨0,f.length,P,[],none,0,false,rfl,dk.q⟩
 case round=>
  obtain⟨a,bk,ae,ps,T,aa,t,rfl,aq⟩:=hrel;have D:=V aq;have gm:a<f.length:=(Qb.1 aq.at_).1;have gs:=aq.size;obtain⟨m,bb⟩:=Qyy (S.Ae ae);have ev:m.Ao<=1000000:=by
   rw[<-bb];have:=S.LY ae;rw[S.lda]at this;have:=J6 _ _ ae aq.at_;omega
  have ao:=aq.head;rw[bb]at ao;have gz:=X ao 0 _ rfl;have fm:=X ao 1 _ rfl;have fn:=X ao 2 _ rfl;have fo:=X ao 3 _ rfl;have ay:=V bb;have ca:U (∀l,Below wr wr l->Calls prog 180 #[.slice (some (b (r+a))) (f.length-a) (k-a),.agg #[.int .u8 (m.kind.toNat:Int),m.Al,m.Ao,m.empty]] l λe j=>
    ∃R d,e=.returned (.slice (some ⟨R,0,none⟩) d.length d.length)/\Cx j R 0 d/\U (dat d=S.Ay m ((dat f).drop a))/\0<d.length/\d.length<=f.length-a/\l.heap.size<=R/\R<j.heap.size/\Below l.heap.size l j):=V (λl ar=>by
   have co:=D.q.below.trans (ar.mono Z);have:=zfj b (r+a) (k-a) (f.drop a) m.kind m l (by rw[Qf];omega) (by have:=co.size;omega) ((bi.below co ct).drop a) ev;rw[Qf,Rh]at this;exact this)
  have cb:=V (ca.q wr.drew Sr.drew);clear aq ao bb ca;have f6:(0:Int)<=(a:Int):=Z;have f7:(a:Int)<=(f.length:Int):=Z;have f8:(a:Int)<(k:Int):=Z;have gi:a<k:=Z;have gd:¬k=a:=Z;go_wp2_with fail
  go_region_held3 (λj=>j.cell? w=some (.int .u8 (m.kind.toNat:Int))/\j.cell? (w 1)=some (.int .i64 m.Al)/\j.cell? (w 2)=some (.int .i64 (m.Ao:Nat))/\j.cell? (w 3)=some (.bool m.empty))
   ((refine⟨?_,?_,?_,?_⟩<;>(first|assumption|(rw[cu _ _ (by show w.heap.size<wr.heap.size;omega)];assumption))))
   ((go_at_call 180;apply cb.m;rintro e ai⟨R,d,rfl,dd,ba,go,gk,cd,ce,a6⟩;obtain⟨cu,ei⟩:=Na a6))
  have a7:Below wr wr ai:=by first|exact a6|exact Sr.drew.trans a6
  have cp:=D.q.below.trans (a7.mono Z);obtain⟨a2,a5⟩:=Qyy (S.Ay m ((dat f).drop a));have ch:d.length=a2.length:=by rw[<-a5,<-ba.q,Cq]
  obtain⟨E,bz⟩:=Qyy (S.Ag L a2);have ck:U (Calls prog 64 #[.slice (some ⟨R,0,none⟩) d.length d.length] ai λe j=>∃v,e=.returned (.tuple #[v,E.2])/\Co j (λq=>ai.heap.size<=q/\q<j) v E.1/\Below ai ai j):=V (by
   have:=ea.q R 0 d.length d ai (Qc _) ce dd (cv.below cp) (by
    rw[ba.q];have y:(dat f).drop a=ae.data.toList::(dat f).drop (a+1):=by
     have ek:(dat f)[a]?=some ae.data.toList:=(by rw[Iy,D.q.at_];rfl);obtain⟨bc,au⟩:=Qb.1 ek;rw[Qm bc,au]
    have z:=S.MO ae ((dat f).drop (a+1)) D.q.ok;rw[<-y,ay.q]at z;have a3:=Nw (dat f) a;omega)
   rw[ba.q,a5,bz]at this;exact this)
  have ed:=V a7;have cg:=V a5;have dg:=V bz;have ci:=V ch;have dj:wr<=ai.heap.size:=a7.size;clear a6 a7 cp cu ei a5 bz ch dd ba cd ce fm fn fo cb;go_wp2_with fail
  apply ck.m;rintro e C⟨kv,rfl,bx,bn⟩;obtain⟨G,K,H,rfl⟩:=bx.form;have a8:=ed.q.trans (bn.mono dj);have gp:ai<=C.heap.size:=bn.size;have bd:=(a8.block ((w:Nat)+2) Z).trans D.q.list;have b6:=X bd 7 _ rfl;have dw:=Av bd;have da:C.ownsRow ((w:Nat)+3) 110 8 (.slice T ps.length aa) ps.length (cellsOf ps):=D.q.own.kept (Below.Ll a8) (by
   cases an:(Value.slice T ps.length aa).ownBlock with
   |none=>exact .inl rfl
   |some g=>exact .inr Y)
  have e4:=V (λfl=>da.alloc fl);have e1:U (∀av al,(six (.at_ (a:Int) 7 0 [] [] false E.1,.slice G K H,(⟨some (b (r+a)),d.length,k-a⟩:Ext)))[av]?=some al->(C.alloc (.cells #[(7:Int),a,.slice (some (b (r+a))) d.length (k-a),O,(),(),false,.slice G K H] 110)).cell? ((C:Addr).add av)=some al):=V (by
   intro av al eo;have ec:(C:Addr).add av=⟨C,av,none⟩:=by
    simp only[Addr.add];split;·rename_i an;simp<;>omega
    simp<;>omega
   rw[ec];exact X (Ak _ _) av al (by rw[<-eo];simp[six];rfl))
  have e3:U (∀al∈six (.at_ (a:Int) 7 0 [] [] false E.1,.slice G K H,(⟨some (b (r+a)),d.length,k-a⟩:Ext)),al.oneCell'=true):=V (by
   intro al dm;simp[six]at dm;rcases dm with rfl|rfl|rfl|rfl|rfl|rfl|rfl|rfl<;>rfl)
  have gf:=D.q.count;have e6:=V bx;have ee:=V a8;have gj:=V bd;clear bx bn a8 da bd ck;have ew:U (∀(bj am:Sw) (g cap1:Nat),Below C C bj->bj.heap.size=(C:Nat)+1->am.ownsRow ((w:Nat)+3) 110 8 (Value.slice (some ⟨g,0,none⟩) (ps.length+1) cap1) (ps.length+1) (cellsOf ps++six (.at_ (a:Int) 7 0 [] [] false E.1,.slice G K H,(⟨some (b (r+a)),d.length,k-a⟩:Ext)))->bj.grownBy am (Value.slice T ps.length aa).ownBlock->((Value.slice T ps.length aa).ownBlock=some g\/g=(C:Nat)+1) ->
    Mid w wr s t ps (S.Ac.at_ (a:Int) 7 0 [] [] false E.1,.slice G K H,(⟨some (b (r+a)),d.length,k-a⟩:Ext)) g cap1 (am.setCell (((w:Nat)+2) 7) (Value.slice (some ⟨g,0,none⟩) (ps.length+1) cap1))/\am.heap[(w:Nat)+2]?=some (.cells #[(6:Int),O,Sx,.int .i64 (S.Ae s).Al,(),(),t,.slice T ps.length aa] 110 (0,0))):=V (λbj am g cap1 y z a3 dx dy=>by
   have ag:=zno D.q ee.q (e6.q.move (A':=λq=>wr.heap.size<=q/\q<C) (λq au=>⟨Qj dj au.1,au.2⟩) (λ_ _=>rfl)) a3 y z dx dy;exact⟨⟨ag.1,ag.2.1,ag.2.2.1,ag.2.2.2.1,ag.2.2.2.2.1,ag.2.2.2.2.2.1,ag.2.2.2.2.2.2.1⟩,ag.2.2.2.2.2.2.2⟩)
  have dv:∀Q,(C.alloc Q).cell? (((w:Nat)+2) 7)=some (.slice T ps.length aa):=λQ=>Vh b6 (by show (w:Nat)+2<C.heap.size;omega) Q;have d2:(0:Int)<=(a:Int)+(d.length:Int):=Z;have d3:(a:Int)<=(a:Int)+(d.length:Int):=Z;have d4:(a:Int)+(d.length:Int)<=(k:Int):=Z;have d5:(a:Int)+(d.length:Int)<=(f.length:Int):=Z;have fd:IntKind.i64.wrap ((a:Int)+(d.length:Int))=(a:Int)+(d.length:Int):=by rw[Sqe];omega
  have fa:((a:Int)+(d.length:Int)).toNat=a+d.length:=Z;have e8:a+d.length-a=d.length:=Z;go_upto_region 5 with fail
  go_cut [7] (λfr l=>fr=.int .i64 a/\∃g cap1,U (Mid w wr s t ps (S.Ac.at_ (a:Int) 7 0 [] [] false E.1,.slice G K H,(⟨some (b (r+a)),d.length,k-a⟩:Ext)) g cap1 l))
  case first=>
   go_region_law ((refine step_append_lies _ I _ _ 77 I ((w:Nat)+3) 110 i0 (.agg #[O,O,Sx,O,(),(),false,Sx]) 8 112 underlying77 em fg fh fi I Z (.slice T ps.length aa) ps.length (cellsOf ps) I (e4.q _) C 1 1 (six (.at_ (a:Int) 7 0 [] [] false E.1,.slice G K H,(⟨some (b (r+a)),d.length,k-a⟩:Ext))) I I e1.q e3.q Z (by unfold maxLen;omega) Z (by simp;omega) ((C:Nat)+1) Y ?_;intro g cap1 am db cy cn et;have bg:=ew.q _ am g cap1 ((Below.refl _ C).drew.alloc (Qc _) _) Y db cy cn;have f0:=X bg.2 7 _ rfl;have f1:=Av bg.2))
   all_goals (have eu:=V bg.1;clear db cy cn et bg)
   all_goals (go_wp2_with fail;go_meet;exact⟨rfl,g,cap1,eu⟩)
  case rest=>
  obtain⟨rfl,g,cap1,F⟩:=hcut;obtain⟨o,fb⟩:=Qzz (wc);subst fb;clear b6 dw dv d2 d3 d4 d5 fd fa e8;have gu:a+d.length<=f.length:=Z;obtain⟨h,bq⟩:=Qyy (S.Az ((dat f).drop (a+d.length)));have gh:a+d.length+h<=f.length:=by have:=S.Ru ((dat f).drop (a+d.length));rw[Qf,Cq,bq]at this;omega
  have a9:Below w w o:=F.q.2.2.2.2.2.1;have df:=V (bi.below a9 ct);have eh:=V (cv.below a9);have ef:b<o:=by have:=a9.size;omega
  have br:=V bq;clear a9 bq;go_upto_region 7 with fail
  go_cut [11] (λfp l=>fp=.int .i64 (h:Nat)/\o=l)
  case first=>
   by_cases ep:a+d.length<k
   ·have bl:U (Calls prog 84 #[.slice (some (b (r+(a+d.length)))) (f.length-(a+d.length)) (k-(a+d.length))] o λe j=>e=.returned h/\o=j):=V (by
     have:=Px b (r+(a+d.length)) (k-(a+d.length)) (f.drop (a+d.length)) o (by rw[Qf];omega) (df.q.drop (a+d.length)).row;rw[Qf,Rh,br.q]at this;exact this.mono (λe j ⟨y,z⟩=>⟨y,z.symm⟩))
    go_wp2_with (fail);apply bl.m;rintro e j⟨rfl,rfl⟩;go_wp2_with (fail);go_meet;exact⟨rfl,rfl⟩
   obtain rfl:k=a+d.length:=Z;have el:h=0:=Z;subst el;have bl:U (Calls prog 84 #[.slice (some (b r)) 0 0] o λe j=>e=.returned O/\o=j):=V (by
    have:=Px b r 0 [] o Y (λi ae an=>by simp at an);exact this.mono (λe j ⟨y,z⟩=>⟨y,z.symm⟩))
   have es:f.length<=a+d.length:=Z;clear ep;go_wp2_with (fail);apply bl.m;rintro e j⟨rfl,rfl⟩;go_wp2_with (fail);go_meet;exact⟨rfl,rfl⟩
  case rest=>
  obtain⟨rfl,rfl⟩:=hcut;have cz:U ((S.Ae s).kind=m.kind):=V (by rw[<-ay.q,D.q.kind]);obtain⟨more,c3⟩:=Qyy ((S.Cj (S.Ae s).kind ((dat f).drop (a+d.length+h))).ok);have ap:=V c3;have bs:=F.q.1.trans D.q.head;rw[ay.q]at bs;have az:=X bs 0 _ rfl;have a0:∀Q,(o.alloc Q).cell? w=some (.int .u8 (m.kind.toNat:Int)):=λQ=>by
   rw[((Below.refl o o).alloc (Qc _) Q).cell (p:=⟨w,0,none⟩) (by have:=F.q.2.2.2.2.2.2;show w.heap.size<_;omega)];exact az
  have b2:o.drew.cell? w=some (.int .u8 (m.kind.toNat:Int)):=az;have b1:∀Q,(o.alloc Q).drew.cell? w=some (.int .u8 (m.kind.toNat:Int)):=a0;have b3:∀Q,(o.drew.alloc Q).cell? w=some (.int .u8 (m.kind.toNat:Int)):=a0;have ab:w<o.heap.size:=by have:=F.q.2.2.2.2.2.2;omega
  have bv:o.heap.size≠w.heap.size:=Z;have e2:w.heap.size≠o.heap.size:=Z;have aw:o.heap.size<=(o.alloc (.cells #[.int .u8 0,O,O,false] 186)).drew.heap.size:=Y;have d6:(0:Int)<=(a:Int)+(d.length:Int)+(h:Int):=Z;have d7:(a:Int)+(d.length:Int)+(h:Int)<=(f.length:Int):=Z;have fe:IntKind.i64.wrap ((a:Int)+(d.length:Int)+(h:Int))=(a:Int)+(d.length:Int)+(h:Int):=by rw[Sqe];omega
  have e9:((a:Int)+(d.length:Int)+(h:Int)).toNat=a+d.length+h:=Z;clear c3 bs;go_upto_region 8 with fail
  go_cut [12,13] (λfq b4 l=>DU o (λmk=>U (more=true->mk=(S.Cj (S.Ae s).kind ((dat f).drop (a+d.length+h))))) more fq b4 l)
  case first=>
   by_cases eq:a+d.length+h<k
   ·have f9:(a:Int)+(d.length:Int)+(h:Int)<(k:Int):=Z;have ge:¬k=a+d.length+h:=Z;have bm:U (∀l,After o l->Calls prog 181 #[.slice (some (b (r+(a+d.length+h)))) (f.length-(a+d.length+h)) (k-(a+d.length+h)),.int .u8 (m.kind.toNat:Int)] l λe j=>∃mk:S.Mark,e=.returned (.tuple #[.agg #[.int .u8 (mk.kind.toNat:Int),mk.Al,mk.Ao,mk.empty],more])/\U (more=true->mk=(S.Cj (S.Ae s).kind ((dat f).drop (a+d.length+h))))/\Below l.heap.size l j):=V (λl ar=>by
     have gb:=ar.size;have:=zco b (r+(a+d.length+h)) (k-(a+d.length+h)) (f.drop (a+d.length+h)) (S.Ae s).kind l Z ((df.q.below ar ef).drop _) (eh.q.below ar);rw[Qf,Rh]at this;rw[ap.q,cz.q]at this;exact this.mono (λe j ⟨mk,y,z,a3⟩=>⟨mk,y,V (by rw[cz.q];exact z.q),a3⟩))
    go_region_held3 (λj=>j.cell? w=some (.int .u8 (m.kind.toNat:Int)))
     (first|with_reducible exact b2|with_reducible exact b1 _|with_reducible exact b3 _|with_reducible exact ak|with_reducible exact Vh ak bt _|with_reducible exact OL ak bv)
     ((go_at_call 181;refine(bm.q _ (by first|exact Yr|exact LD)).mono ?_;rintro e a1⟨mk,rfl,ah,u⟩;have bt:w<a1.heap.size:=Qh (by first|exact ab|exact Qh ab aw) u.size;have ak:a1.cell? w=some (.int .u8 (m.kind.toNat:Int)):=(u.cell (p:=⟨w,0,none⟩) (by first|exact ab|exact Qh ab aw)).trans (by first|exact az|exact a0 _);obtain⟨eg,ej⟩:=Na u))
    ·go_wp2_with (fail);go_meet;exact VF ah u
    go_wp2_with (fail);go_meet;exact KH ah u
   have es:f.length<=a+d.length+h:=Z;have c1:U (more=false):=V (by rw[<-ap.q,Qw (by rw[Cq];omega)];rfl);obtain rfl:k=a+d.length+h:=Z;have bm:U (∀l,After o l->Calls prog 181 #[.slice (some (b r)) 0 0,.int .u8 (m.kind.toNat:Int)] l λe j=>∃mk:S.Mark,e=.returned (.tuple #[.agg #[.int .u8 (mk.kind.toNat:Int),mk.Al,mk.Ao,mk.empty],more])/\U (more=true->mk=(S.Cj (S.Ae s).kind ((dat f).drop (a+d.length+h))))/\Below l.heap.size l j):=V (λl ar=>(UU _ 0 m.kind l).mono (λe j ⟨y,z⟩=>⟨⟨0,0,0,false,false⟩,by rw[y,c1.q];rfl,V (by intro an;rw[c1.q]at an;cases an),z⟩));clear eq;go_region_held3 (λj=>j.cell? w=some (.int .u8 (m.kind.toNat:Int)))
    (first|with_reducible exact b2|with_reducible exact b1 _|with_reducible exact b3 _|with_reducible exact ak|with_reducible exact Vh ak bt _|with_reducible exact OL ak bv)
    ((go_at_call 181;refine(bm.q _ (by first|exact Yr|exact LD)).mono ?_;rintro e a1⟨mk,rfl,ah,u⟩;have bt:w<a1.heap.size:=Qh (by first|exact ab|exact Qh ab aw) u.size;have ak:a1.cell? w=some (.int .u8 (m.kind.toNat:Int)):=(u.cell (p:=⟨w,0,none⟩) (by first|exact ab|exact Qh ab aw)).trans (by first|exact az|exact a0 _);obtain⟨eg,ej⟩:=Na u))
   ·go_wp2_with (fail);go_meet;exact VF ah u
   go_wp2_with (fail);go_meet;exact KH ah u
  case rest=>
  obtain⟨mk,R,ah,rfl,rfl,cd,cf,u⟩:=hcut;have gq:(w:Nat)+3<=o.heap.size:=F.q.2.2.2.2.2.2;have gr:o<=wc.heap.size:=u.size;have b9:=(u.block w Z).trans (F.q.1.trans D.q.head);have cl:=(u.block ((w:Nat)+1) Z).trans (F.q.2.1.trans D.q.res);have a4:=(u.block ((w:Nat)+2) Z).trans F.q.2.2.1;obtain⟨x,bw⟩:=Qyy (E.2);have dc:=V bw;rw[bw];have fj:=X a4 6 _ rfl;have fk:=Av a4;have d1:=V b9;have eb:=V cl;have d8:=V a4;have d9:=V cf;have bo:=V u;clear b9 cl a4 cf u bw az a0 b2 b1 b3 bv e2 aw d6 d7 fe e9 ab;go_upto_region 9 with fail
  go_cut [13] (λb4 l=>b4=.bool more/\wc.setCell (((w:Nat)+2) 6) (.bool (t||x||(more&&decide (0<h))))=l)
  case first=>
   have ac:(h:Int)<=(f.length:Int):=Z;by_cases b8:0<h
   ·have ax:decide (0<h)=true:=Sl b8;have en:(0:Int)<(h:Int):=Z;have bp:=V ax;clear ax;cases t<;>cases x<;>cases more<;>(go_wp2;go_meet;first|exact⟨rfl,rfl⟩|exact⟨rfl,by rw[bp.q];rfl⟩)
   have ax:decide (0<h)=false:=Si b8;have en:¬(0:Int)<(h:Int):=Z;have bp:=V ax;clear ax;cases t<;>cases x<;>cases more<;>(go_wp2;go_meet;first|exact⟨rfl,rfl⟩|exact⟨rfl,by rw[bp.q];rfl⟩)
  case rest=>
  obtain⟨rfl,rfl⟩:=hcut;have M:=Aj (cs:=[.int .i64 6,.int .i64 0,.slice none 0 0,.int .i64 (S.Ae s).Al,.string ⟨#[]⟩,.string ⟨#[]⟩,.bool t,.slice (some ⟨g,0,none⟩) (ps.length+1) cap1]) d8.q 6 (.bool (t||x||(more&&decide (0<h))));have af:=Di d1.q (((w:Nat)+2) 6) Y (.bool (t||x||(more&&decide (0<h))));have N:=Di eb.q (((w:Nat)+2) 6) Y (.bool (t||x||(more&&decide (0<h))));have aj:=Di d9.q (((w:Nat)+2) 6) (by show R≠(w:Nat)+2;omega) (.bool (t||x||(more&&decide (0<h))));have cq:Below w w (wc.setCell (((w:Nat)+2) 6) (.bool (t||x||(more&&decide (0<h))))):=Sqh (F.q.2.2.2.2.2.1.trans (bo.q.mono Z)) Y _;have c8:∀q,(w:Nat)+3<=q->q<wc.heap.size->(wc.setCell (((w:Nat)+2) 6) (.bool (t||x||(more&&decide (0<h))))).heap[q]?=wc.heap[q]?:=λq y z=>Below.heap_setCell _ _ _ _ (by show q≠(w:Nat)+2;omega);have dl:(wc.setCell (((w:Nat)+2) 6) (.bool (t||x||(more&&decide (0<h))))).heap.size=wc.heap.size:=by simp[World.setCell]
  generalize fc:wc.setCell (((w:Nat)+2) 6) (.bool (t||x||(more&&decide (0<h))))=du at *;have c9:=V c8;have b0:=V dl;have cr:=V cq;have cc:=V M;have d0:=V af;have cm:=V N;have ga:=V aj;clear fj fk c8 dl cq fc;cases bh:more
  ·rw[bh]at ap M;have cw:=V (zg0 (kv:=.slice G K H) (ln:=(⟨some (b (r+a)),d.length,k-a⟩:Ext)) D.q ay.q cg.q dg.q ci.q br.q ap.q);have g9:=X M 0 _ rfl;have ha:=X M 1 _ rfl;have hb:=X M 2 _ rfl;have hc:=X M 3 _ rfl;have he:=X M 4 _ rfl;have hf:=X M 5 _ rfl;have hg:=X M 6 _ rfl;have hh:=X M 7 _ rfl;have g0:=X N 0 _ rfl;have g1:=X N 1 _ rfl;have g2:=X N 2 _ rfl;have g3:=X N 3 _ rfl;have g4:=X N 4 _ rfl;have g5:=X N 5 _ rfl;have g6:=X N 6 _ rfl;have g7:=X N 7 _ rfl;have g8:=Av N;clear M af N aj bh;go_wp2;have ac:=zhf (u0:=.int .i64 0) (u1:=.int .i64 0) (u2:=.slice none 0 0) (u3:=.int .i64 0) (u4:=.string ⟨#[]⟩) (u5:=.string ⟨#[]⟩) (u6:=.bool false) (u7:=.slice none 0 0) cm.q (.int .i64 6) (.int .i64 0) (.slice none 0 0) (.int .i64 (S.Ae s).Al) (.string ⟨#[]⟩) (.string ⟨#[]⟩) (.bool (t||x)) (.slice (some ⟨g,0,none⟩) (ps.length+1) cap1);have fs:=X ac 0 _ rfl;have ft:=X ac 1 _ rfl;have fu:=X ac 2 _ rfl;have fv:=X ac 3 _ rfl;have fw:=X ac 4 _ rfl;have fx:=X ac 5 _ rfl;have fy:=X ac 6 _ rfl;have fz:=X ac 7 _ rfl;have bf:=VJ (W:=(((((((du.setCell (((w:Nat)+1) 0) (.int .i64 6)).setCell (((w:Nat)+1) 1) (.int .i64 0)).setCell (((w:Nat)+1) 2) (.slice none 0 0)).setCell (((w:Nat)+1) 3) (.int .i64 (S.Ae s).Al)).setCell (((w:Nat)+1) 4) (.string ⟨#[]⟩)).setCell (((w:Nat)+1) 5) (.string ⟨#[]⟩)).setCell (((w:Nat)+1) 6) (.bool (t||x))).setCell (((w:Nat)+1) 7) (.slice (some ⟨g,0,none⟩) (ps.length+1) cap1)) (ps:=ps++[(S.Ac.at_ (a:Int) 7 0 [] [] false E.1,Value.slice G K H,(⟨some (b (r+a)),d.length,k-a⟩:Ext))]) (g:=g) (cap1:=cap1) bo.q (λq y z=>(Xy _ _ _ _ _ _ _ _ q Z).trans (c9.q q y z)) ((Yj _ _ _ _ _ _ _ _).trans b0.q) (by rw[BX,Qa];exact F.q.2.2.2.2.1) F.q.2.2.2.1;refine Sqk (v:=.tuple #[.agg #[(6:Int),O,Sx,.int .i64 (S.Ae s).Al,(),(),.bool (t||x),.slice (some ⟨g,0,none⟩) (ps.length+1) cap1],.int .i64 ((a:Int)+(d.length:Int))]) (by simp[results,results122,go_sem,fs,ft,fu,fv,fw,fx,fy,fz]) rfl ⟨.slice (some ⟨g,0,none⟩) (ps.length+1) cap1,?_,?_,?_⟩;·rw[de.q,cw.q,dc.q];rfl
   ·rw[de.q,cw.q];have:=Z5 (A:=λq=>w.heap.size<=q/\q<_) bf.1 (λb7 cx=>⟨by have:=bf.1.lt b7 cx;omega,(bf.1.lt b7 cx).2⟩) (λi p e5=>(bf.2 i p e5).move (λq au=>⟨Z,au.2.1⟩) (λ_ _=>rfl));rw[Qa]at this;exact this
   repeat (refine Sqh ?_ Y _)
   exact cr.q
  rw[bh]at ap ah cc;obtain⟨dp,dh,c4,c5,c6,bu⟩:=zna (kv:=.slice G K H) (ln:=(⟨some (b (r+a)),d.length,k-a⟩:Ext)) D.q ay.q cg.q dg.q ci.q br.q ap.q;have c2:mk=S.Ae dp.data.toList:=(ah.q rfl).trans c4;rw[dc.q]at bu;have gv:=X aj 0 _ rfl;have gw:=X aj 1 _ rfl;have gx:=X aj 2 _ rfl;have gy:=X aj 3 _ rfl;have f2:=X af 0 _ rfl;have f3:=X af 1 _ rfl;have f4:=X af 2 _ rfl;have f5:=X af 3 _ rfl;have gg:=Av af;have e7:=V dh;have ey:=V c5;have ez:=V c6;have e0:=V bu;have ex:=V c2;have gn:¬R=w.heap.size:=Z;clear M af N aj bh dh c4 c5 c6 bu c2;have er:U (∀dq dr ds dt,_):=V (λdq dr ds dt=>VJ (W:=(((du.setCell w dq).setCell (w 1) dr).setCell (w 2) ds).setCell (w 3) dt) (ps:=ps++[(S.Ac.at_ (a:Int) 7 0 [] [] false E.1,Value.slice G K H,(⟨some (b (r+a)),d.length,k-a⟩:Ext))]) (g:=g) (cap1:=cap1) bo.q (λq y z=>(EX _ _ _ _ q Z).trans (c9.q q y z)) ((NK _ _ _ _).trans b0.q) (by rw[BX,Qa];exact F.q.2.2.2.2.1) F.q.2.2.2.1);go_wp2;go_roundw
  case rel=>
   have c0:(ps++[(S.Ac.at_ (a:Int) 7 0 [] [] false E.1,Value.slice G K H,(⟨some (b (r+a)),d.length,k-a⟩:Ext))]).length=ps.length+1:=Y;refine⟨a+d.length+h,bk-1,dp,ps++[(S.Ac.at_ (a:Int) 7 0 [] [] false E.1,Value.slice G K H,(⟨some (b (r+a)),d.length,k-a⟩:Ext))],some ⟨g,0,none⟩,cap1,t||x||decide (0<h),by go_num,?_⟩;have bc:=er.q (.int .u8 (mk.kind.toNat:Int)) (.int .i64 mk.Al) (.int .i64 (mk.Ao:Nat)) (.bool mk.empty);refine⟨e7.q,ey.q,ez.q,e0.q,by have:=D.q.fuel;omega,?_,?_,?_,bc.1,bc.2,?_,by rw[c0];omega,?_⟩
   ·rw[<-ex.q];exact zcs (u0:=.int .u8 _) (u1:=.int .i64 _) (u2:=.int .i64 _) (u3:=.bool _) d0.q _ _ _ _
   ·rw[EX _ _ _ _ _ Z];exact cm.q
   ·rw[EX _ _ _ _ _ Z,c0,cc.q,Bool.true_and];rfl
   ·repeat (refine Sqh ?_ Y _)
    exact cr.q
   rw[NK,b0.q];omega
  case measure=>exact Sj
theorem OD (a:Nat)(g:Oa a):Xd a:=by
 intro b o f d p w j h m k hd l;exact zl7 a g b o f (d::p) d w rfl j h m k hd l
theorem zbs (l:List UInt8):((S.nl l).map (λf=>f.length+1)).sum=l.length+1:=by
 induction l with
 |nil=>rfl
 |cons b l a=>
  simp only[S.nl];split;·simp[a];omega
  cases d:S.nl l with
  |nil=>have:=S.IK l;rw[d]at this;simp at this
  |cons g h=>rw[d]at a;simp at a ⊢;omega
theorem NA (f:List ByteArray):tot f=((dat f).map (λd=>d.length+1)).sum:=by
 unfold tot dat;rw[List.map_map];have:(λa:ByteArray=>a.size+1)=((λd:List UInt8=>d.length+1) ∘ λa:ByteArray=>a.data.toList):=by
  funext a;show a.size+1=a.data.toList.length+1;rw[S.lda]
 rw[this]
theorem TN (s:Sb)(w:Sw)(r:0<s.size)(F:s.size<=999998)(y:Env w):Calls prog 65 #[s] w λe d=>∃f,e=.returned (.slice (some w) f.length f.length)/\Cx d w 0 f/\U (dat f=S.Aw s)/\w.heap.size<d.heap.size/\Below w w d:=by
 obtain⟨_,⟨D,p⟩,_⟩:=y;have E:=S.K9 s r;have C:=S.Np s r;have o:s.data.toList≠[]:=by rw[<-Lib.toList_data];exact C
 obtain⟨a,h⟩:∃a:List UInt8,a=Lib.trimSuffix s.data.toList [10]:=⟨_,rfl⟩;have G:a.length<=s.size:=by rw[h,<-S.lda];exact Lib.trimSuffix_le _ _
 have l:Lib.countB ⟨a.toArray⟩ ⟨#[10]⟩=a.count 10:=by
  show Lib.count (ByteArray.mk a.toArray).data.toList [10]=_;rw[S.Tt,Lib.count_one]
 have g:dat (Lib.splitB ⟨#[10]⟩ 0 (a.count 10) ⟨a.toArray⟩)=S.nl a:=by
  show List.map (λs:ByteArray=>s.data.toList) _=_;rw[Lib.splitB_data,S.Tt];exact S.zg9 a
 have j:(Lib.splitB ⟨#[10]⟩ 0 (a.count 10) ⟨a.toArray⟩).length=a.count 10+1:=by
  rw[<-Cq,g,S.IK]
 have t:tot (Lib.splitB ⟨#[10]⟩ 0 (a.count 10) ⟨a.toArray⟩)<=1000000:=by rw[NA,g,zbs];omega
 have k:U (Calls prog 86 #[.string ⟨a.toArray⟩,.string ⟨#[10]⟩] w λe d=>
   e=.returned (.slice (some w) (a.count 10+1) (a.count 10+1))/\d=w.alloc (.cells ((Lib.splitB ⟨#[10]⟩ 0 (a.count 10) ⟨a.toArray⟩).map Value.string).toArray 9)):=V (by
  have:=Tryz.strings_Split ⟨a.toArray⟩ ⟨#[10]⟩ D w (by rw[S.Pk];omega) p J;rw[l]at this;exact this)
 have x:U (Calls prog 87 #[s,.string ⟨#[10]⟩] w λe d=>e=.returned (.string ⟨a.toArray⟩)/\w=d):=V (by
  have:=Tryz.strings_TrimSuffix s ⟨#[10]⟩ w Z;rw[h];exact this.mono (λe d ⟨u,v⟩=>⟨u,v.symm⟩))
 have m:U (dat (Lib.splitB ⟨#[10]⟩ 0 (a.count 10) ⟨a.toArray⟩)=S.Aw s):=V (by rw[g];unfold S.Aw;rw[if_neg o,h]);obtain⟨f,q⟩:=Qzz (Lib.splitB ⟨#[10]⟩ 0 (a.count 10) ⟨a.toArray⟩);rw[<-q]at k m j t;have A:=V j;clear l g o h q p j;go_enter func65,ntmps65;go_wp2_with fail
 apply x.m;rintro e d⟨rfl,rfl⟩;go_wp2_with fail
 apply k.m;rintro e d⟨rfl,rfl⟩;go_wp2;go_ret;refine⟨f,by rw[A.q];rfl,⟨?_,t⟩,m,Y,Sr.alloc (Qc _) _⟩;intro i H z;rw[Nat.zero_add];exact X (Ak _ _) i _ (by simp[z])
theorem JJ (s:Sb)(w:Sw)(a:s.size=0):Calls prog 65 #[s] w λe d=>e=.returned (.slice none 0 0)/\w=d:=by
 have f:=S.Y9 s a;clear a;go_enter func65,ntmps65;go_wp2;go_ret;exact⟨rfl,rfl⟩
theorem JM (w:Sw):Calls prog 64 #[Sx] w λe a=>e=.returned (.tuple #[Sx,false])/\w=a:=by
 have g:U (Calls prog 84 #[Sx] w λe a=>e=.returned O/\w=a):=V ((zh8 w).mono (λe a ⟨d,f⟩=>⟨d,f.symm⟩));go_enter func64,ntmps64;go_wp2_with (go_at_call 84;apply g.m;rintro e a⟨rfl,rfl⟩)
 refine wp_loop_rounds 1 ?_;rw[rounds_succ];go_wp2;go_ret2;exact⟨rfl,rfl⟩
theorem BL (l:List UInt8):bytes (S.nl l)<=l.length:=by
 induction l with
 |nil=>simp[S.nl,bytes]
 |cons b l d=>
  simp only[S.nl];split;·simp only[bytes,Qs,List.sum_cons,Qi,Qd]at *;omega
  cases a:S.nl l with
  |nil=>simp[bytes]
  |cons f g=>rw[a]at d;simp only[bytes,Qs,List.sum_cons,Qd]at *;omega
theorem CG (k:∀t,Oa t)(s:Sb)(w:Sw)(G:s.size<=999998)(p:Env w):Calls prog 45 #[s] w λe a=>∃h,e=.returned h/\Co a (λj=>w.heap.size<=j/\j<a) h (S.Ag (s.size+1) (S.Aw s)).1/\Below w w a:=by
 have v:=V k;clear k;by_cases f:s.size=0
 ·have D:U (S.Ag (s.size+1) (S.Aw s)=([],false)):=V (by
   rw[S.U1 s f];rfl)
  have y:=V (JJ s w f);have x:=V (JM w);clear f;go_enter func45,ntmps45;go_wp2_with fail
  apply y.m;rintro e a⟨rfl,rfl⟩;go_wp2_with fail
  apply x.m;rintro e a⟨rfl,rfl⟩;go_wp2;go_ret;exact⟨_,rfl,by rw[D.q];exact .nil,Sr⟩
 have z:=V (TN s w Z G p);go_enter func45,ntmps45;go_wp2_with fail
 apply z.m;rintro e L⟨r,rfl,q,o,E,d⟩;have l:=V (v.q (s.size+1) w 0 r.length r L (Qc _) E q (p.below d) (by
  rw[o.q];unfold S.Aw;split;·simp[bytes]
  have M:=BL (Lib.trimSuffix s.data.toList [10]);have u:=Lib.trimSuffix_le s.data.toList [10];rw[S.lda]at u;omega))
 rw[o.q]at l;have A:=V d;have H:=d.size;clear d q;go_wp2_with fail
 apply l.m;rintro e R⟨h,rfl,g,m⟩;obtain⟨N,Q,P,rfl⟩:=g.form;have F:=V g;have C:=V m;clear g m;go_wp2;go_ret;exact⟨_,rfl,F.q.move (λj K=>⟨Z,K.2⟩) (λ_ _=>rfl),A.q.trans (C.q.mono H)⟩
