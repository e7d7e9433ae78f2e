import Derived.Test.YtlojgpkajkedeaaGreatDoorOE11
import Derived.Test.YtlojgpkajkedeaaGreatDoorOW17
import Derived.ScopeJumps
set_option maxHeartbeats 0
set_option maxRecDepth 100000
namespace Go.Proofs.YtlojgpkajkedeaaGreatDoor
open Go.RowKit Go.Proofs.Tryz
theorem Tryz.zd7:(prog.info? 253).map (λi=>(i.zero,i.size,i.bytes))=some (some (.agg #[.pointer none,false,false]),3,16):=Sk
theorem Ch.XH {w:Sw}{C g k:Nat}{f:Sb}{j d:Value}{h:List Mem}(a:Ch w C 3 168 (Il f g k j) h):Ch (w.setCell (C 5) d) C 3 168 (Il f g k d) h:=
 ⟨a.seg.Di _ a.q _,⟨Aj a.hdr.1 5 d,by show 3+1<6;omega⟩,a.nodup,a.q⟩
def Rb (ad:Addr)(d a:Bool):List Value:=[.pointer (some ad),.bool d,.bool a]
theorem zhh (a:List Mem)(m:Mem)(f:List Bj)(d:Bool):Fq (a++[m]) (f++[⟨a.length,d,false⟩])=Fq (a++[m]) f++Rb m.ad d false:=by
 unfold Fq Rb;rw[Qv,List.flatten_append];simp
theorem N8 (f:List Mem)(a:List Bj):(Fq f a).length=a.length*3:=by
 unfold Fq;induction a with
 |nil=>rfl
 |cons h g d=>simp only[Qs,List.flatten_cons,Qa,d,Qd,Qi];omega
theorem Cut.pushed {C:Nat}{s:Sb}{t k:Nat}{l:List Mem}{m:Mem}{f:List Bj}{o:So}{p g cap1:Nat}{A:Nat->Prop}{z:Bool}{w W j:Sw}(h:Cut C s t k (l++[m]) f o p A w)(N:∀a∈f,a.j<l.length)(u:Below w w W)
  (Q:j.ownsRow (C+1) 253 3 (.slice (some g) (f.length+1) cap1) (f.length+1) (Fq (l++[m]) f++Rb m.ad z false)) (x:W.grownBy j (Value.slice o f.length p).ownBlock) (q:(Value.slice o f.length p).ownBlock=some g\/g=W.heap.size) :
  Cut C s t k (l++[m]) (f++[⟨l.length,z,false⟩]) (some g) cap1 A (j.setCell (C 5) (.slice (some g) (f.length+1) cap1))/\Below C w (j.setCell (C 5) (.slice (some g) (f.length+1) cap1)):=by
 have F:=h.own.lt;have D:=h.lt;have ab:=u.size;have aa:=x.size;have v:∀a,a<w.heap.size->some a≠(Value.slice o f.length p).ownBlock->j.heap[a]?=w.heap[a]?:=λa d y=>by
  rw[x.block a Z y,u.block a d]
 have H:some C≠(Value.slice o f.length p).ownBlock:=λe=>by have:=(F C e.symm).1;omega
 have P:∀a∈C::Ad (l++[m]),j.heap[a]?=w.heap[a]?:=λa d=>by
  rcases Sc.1 d with rfl|d
  ·exact v _ D H
  exact v a (h.ch.mlt a d) (h.sep a d)
 have K:=h.ch.move P;have E:∀a,a<w.heap.size->some a≠(Value.slice o f.length p).ownBlock->some a≠(Value.slice (some g) (f.length+1) cap1).ownBlock:=λa d y e=>by
  have M:(Value.slice (some (g:Addr)) (f.length+1) cap1).ownBlock=some g:=rfl;rw[M]at e;cases e
  rcases q with q|q
  ·exact y q.symm
  omega
 have r:(f++[(⟨l.length,z,false⟩:Bj)]).length=f.length+1:=Y;refine⟨⟨?_,?_,?_,?_,?_,h.above,?_,?_,h.fk,h.kl,h.small,h.bytes,h.runs⟩,?_⟩;·rw[r];exact K.XH
 ·intro e L;exact(h.Ab e L).move (λa d=>d) (λa d=>by
   have hd:=h.dead a d;rw[Below.heap_setCell _ _ _ _ (λ(e:a=C)=>hd.2.1 (by rw[e];exact Qx))];exact v a hd.1 hd.2.2)
 ·intro a d;have hd:=h.dead a d;refine⟨?_,hd.2.1,?_⟩
  ·have:(j.setCell (C 5) (.slice (some g) (f.length+1) cap1)).heap.size=j.heap.size:=by simp[World.setCell]
   omega
  rw[r];exact E a hd.1 hd.2.2
 ·rw[r,zhh];exact ownsRow_setCell_below Q Y _
 ·intro a d;rw[r];exact E a (h.ch.mlt a d) (h.sep a d)
 ·intro a d;rcases Qbh.1 d with d|d
  ·exact h.inl a d
  simp at d;subst d;simp
 ·rw[List.pairwise_append];exact⟨h.up,Y,λa d ac G=>by simp at G;subst G;exact N a d⟩
 exact Sqh (Sqi (u.mono (Sm D)) x Z (λT R=>by have:=(F T R).1;omega)) Y _
theorem zj1 (C:Nat)(x:Sb)(y k:Nat)(h:List Mem)(f:List Bj)(j:So)(l:Nat)(A:Nat->Prop)(m:Mem)(g:Bool)(w:Sw)(p:Cut C x y k (h++[m]) f j l A w)(ae:∀an∈f,an.j<h.length)(aw:f.length<=1000000):Calls prog 241 #[.pointer (some (C 5)),.agg #[.pointer (some m.m),g,false]] w λe R=>∃al am,e=.returned (.tuple #[])/\Cut C x y k (h++[m]) (f++[⟨h.length,g,false⟩]) al am A R/\Below C w R:=by
 obtain⟨i0,ac,ai,aj,ak⟩:=info_parts Tryz.zd7;have F:=p.cells;have M:=p.lt;have N:=p.own.lt;obtain⟨a,r⟩:=Qzz (w.alloc (.cells #[.pointer (some m.m),g,false] 253));have L:a.heap.size=(w:Nat)+1:=by rw[r];simp
 have s:Below w w a:=by rw[r];exact Sr.alloc (Qc _) _
 have t:a.heap[w.heap.size]?=some (.cells #[.pointer (some m.m),g,false] 253 (0,0)):=by rw[r];exact Ak _ _
 have E:=(s.block C M).trans F;have ay:=X E 5 _ rfl;have a0:=X t 0 _ rfl;have a1:=X t 1 _ rfl;have a2:=X t 2 _ rfl;have ah:=V (λd=>((p.below s).own.alloc d));have af:U (∀(H:Sw) (B:Nat),H.heap[B]?=some (.cells #[.pointer (some m.m),g,false] 253 (0,0))->∀v o,(Rb m.ad g false)[v]?=some o->H.cell? ((B:Addr).add v)=some o):=V (λH B T v o u=>World.news_of_block T v o u);have ag:U (∀o∈Rb m.ad g false,o.oneCell'=true):=V (by
  intro o u;simp[Rb]at u;rcases u with rfl|rfl|rfl<;>rfl)
 have aa:=V p;have z:U (∀d,Below w w (a.drew.alloc d)):=V (λd=>s.drew.alloc (by show w.heap.size<=a.heap.size;omega) _);have W:U (∀d q,(a.drew.alloc d).grownBy q (Value.slice j f.length l).ownBlock->q.heap[C]?=some (.cells [.string x,.int .i64 (y:Nat),.int .i64 (k:Nat),.pointer (hd (h++[m]) none),.pointer (A9 (h++[m]) none),.slice j f.length l].toArray 168 (0,0))):=V (λd q ab=>by
  rw[ab.block C (by have:=(z.q d).size;omega) (λe=>by have:=(N C e.symm).1;omega),(z.q d).block C M];exact F)
 have au:=V L;have az:∀d,(a.alloc d).cell? (C 5)=some (.slice j f.length l):=λd=>X ((Sqj a d C Z).trans E) 5 _ rfl;have ar:C+1<=a.heap.size:=Z;clear p F E t N L;go_enter func241,ntmps241;go_wp2_with fail
 rw[<-r];clear r s;go_region_law ((refine step_append_lies _ I _ _ 164 I (C+1) 253 i0 (.agg #[.pointer none,false,false]) 3 16 underlying164 ac ai aj ak I Z (.slice j f.length l) f.length (Fq (h++[m]) f) I (ah.q _) a 1 1 (Rb m.ad g false) I I (af.q _ _ (Ak _ _)) ag.q Z (by unfold maxLen;omega) Z (by simp;omega) ((a:Nat)+1) Y ?_;intro aq ao q P G K av;have D:=W.q _ q G;have ax:=X D 5 _ rfl;have ap:=Av D))
 all_goals (have Q:=V (aa.q.pushed ae (z.q _) P G (by have:=K;simpa using this)))
 all_goals clear P G K D
 all_goals go_end0
 all_goals exact⟨_,_,rfl,Q.q.1,Q.q.2⟩
theorem zbj (C:Nat)(j:Sb)(l k:Nat)(o:List Mem)(g:So)(h:Nat)(A:Nat->Prop)(w:Sw)(a:Cut C j l k o [] g h A w):Calls prog 236 #[.pointer (some (C 5))] w λe p=>e=.returned (.tuple #[.agg #[.pointer none,false,false],false])/\Below w w p:=by
 have d:=a.cells;have m:=a.lt;have q:=X d 5 _ rfl;have r:∀f,(w.alloc f).cell? (C 5)=some (.slice g 0 h):=λf=>X ((Sqj w f C m).trans d) 5 _ rfl;clear a d;go_enter func236,ntmps236;go_wp2;exact Sqk (v:=.tuple #[.agg #[.pointer none,false,false],false]) (by simp[results,results236,go_sem]) rfl ⟨rfl,Sr.alloc (Qc _) _⟩
theorem KW (d:List Mem)(f:List Bj)(a:Bj):Fq d (f++[a])=Fq d f++[Value.pointer ((d[a.j]?).map Mem.ad),.bool a.image,.bool a.dead]:=by
 unfold Fq;rw[Qv,List.flatten_append];simp
theorem Cut.popped {C:Nat}{q:Sb}{r k:Nat}{m:List Mem}{d:List Bj}{p:Bj}{h:So}{j:Nat}{A:Nat->Prop}{w:Sw}(a:Cut C q r k m (d++[p]) h j A w):Cut C q r k m d h j A (w.setCell (C 5) (.slice h d.length j)):=by
 have o:(d++[p]).length=d.length+1:=Y;have R:=a.own.lt;have L:=a.own;have u:(Value.slice h (d++[p]).length j).ownBlock=(Value.slice h d.length j).ownBlock:=by cases h<;>rfl
 have M:w.ownsRow (C+1) 253 3 (.slice h d.length j) d.length (Fq m d):=by
  rcases L.2 with ⟨_,z⟩|⟨s,x,y,v,H,K,D,E,F,Q⟩
  ·rw[o]at z;omega
  have N:h=some ⟨s,0,none⟩:=by injection v
  have P:j=x:=by injection v
  subst N P;refine⟨by rw[N8],.inr ⟨s,j,y,rfl,H,K,by rw[o]at D;omega,E,F,?_⟩⟩;have t:=congrArg (List.take (d.length*3)) Q;rw[KW,Qbc (by rw[N8];omega),Qbj (l:=Fq m d) (by rw[N8];omega),List.take_take]at t;rw[<-t,o];congr 1
  omega
 refine⟨a.ch.XH,?_,?_,ownsRow_setCell_below M Y _,?_,a.above,?_,?_,a.fk,a.kl,a.small,a.bytes,a.runs⟩
 ·intro e G;exact(a.Ab e G).move (λg f=>f) (λg f=>by
   have hd:=a.dead g f;exact Below.heap_setCell _ _ _ _ (λ(e:g=C)=>hd.2.1 (by rw[e];exact Qx)))
 ·intro g f;have hd:=a.dead g f;rw[u]at hd;exact⟨by simp[World.setCell];exact hd.1,hd.2⟩
 ·intro g f;rw[<-u];exact a.sep g f
 ·intro g f;exact a.inl g (SH _ f)
 exact(List.pairwise_append.1 a.up).1
theorem AU (C:Nat)(t:Sb)(u k:Nat)(p:List Mem)(d:List Bj)(a:Bj)(s:So)(l:Nat)(A:Nat->Prop)(w:Sw)(h:Cut C t u k p (d++[a]) s l A w)(ah:d.length<=1000000):Calls prog 236 #[.pointer (some (C 5))] w λe E=>e=.returned (.tuple #[.agg #[.pointer ((p[a.j]?).map Mem.ad),.bool a.image,.bool a.dead],true])/\Cut C t u k p d s l A E/\Fr [C] w E:=by
 have m:=h.cells;have M:=h.lt;have r:(d++[a]).length=d.length+1:=Y;obtain⟨g,W,D,af,N⟩:=h.own.form Z;have z:s=some ⟨g,0,none⟩:=by injection D
 have ae:d.length+1<=l:=by
  rcases h.own.2 with ⟨ac,H⟩|⟨ab,G,aa,Q,_,_,L,_⟩
  ·rw[r]at H;omega
  have:l=G:=by injection Q
  rw[r]at L;omega
 have y:=λo j=>h.own.cells (g:=g) (by rw[z];rfl) o j;subst z;rw[r]at m;have x:∀o,(g:Addr).add o=⟨g,o,none⟩:=λo=>by unfold Addr.add;split<;>simp_all
 have q:∀i j,([Value.pointer ((p[a.j]?).map Mem.ad),.bool a.image,.bool a.dead]:List Value)[i]?=some j->∀f,w.cell? (g (d.length*3+i))=some j/\(w.alloc f).cell? (g (d.length*3+i))=some j:=λi j P f=>by
  have:=y (d.length*3+i) j (by rw[KW,Qu (by rw[N8];omega),N8,show d.length*3+i-d.length*3=i by omega];exact P);rw[x]at this;exact⟨this,(Uj (Sqj w f g N) _).trans this⟩
 have F:=λf=>(q 0 _ rfl f).2;have R:=λf=>(q 1 _ rfl f).2;have T:=λf=>(q 2 _ rfl f).2;rw[SL]at F;have ag:(((d.length:Nat):Int)+1 == 0)=false:=by simp;omega
 clear q x;clear y D;have ai:=X m 5 _ rfl;have ak:=Av m;have aj:∀a,(w.alloc a).cell? (C 5)=some (.slice (some g) (d.length+1) l):=λa=>X ((Sqj w a C M).trans m) 5 _ rfl;have K:=V h;clear h m;go_enter func236,ntmps236;go_wp2_with fail
 refine Sqk (v:=.tuple #[.agg #[.pointer ((p[a.j]?).map Mem.ad),.bool a.image,.bool a.dead],true]) (by simp[results,results236,go_sem]) rfl ⟨rfl,?_,?_⟩;·exact K.q.popped.below (Sr.alloc (Qc _) _)
 exact((Fr.refl _ w).setCell _ (.inl Y) _).alloc _
theorem ZN (C:Nat)(a t:Sb)(F:Bool)(g k:Nat)(j:List Mem)(l:List Bj)(o:So)(q:Nat)(A:Nat->Prop)(w:Sw)(d:Cut C a g k j l o q A w)(P:k+t.size<=a.size)(N:(t.toList == [33,91])=F)(T:l.length<=1000000):Calls prog 204 #[.pointer (some C),t] w λe G=>∃f h p r,e=.returned (.tuple #[])/\w.heap.size<=f/\w.heap.size<=h/\Cut C a (k+t.size) (k+t.size) ((j++F6 a g k f)++[⟨h,Db t,none,none⟩]) (l++[⟨(j++F6 a g k f).length,F,false⟩]) p r A G/\Below C w G:=by
 have aa:=d.lt;have L:=d.cells;have ab:=d.small;have y:=V (Vu C a g k t.size j l o q A (Db t) none none w d P (by simp[Db,Pt.text]) (by simp[Db,Pt.rs]) .nil);subst N;rw[show Kc (Db t) none none=.agg #[(8:Int),(),t,.pointer none,.pointer none,O,false,false] by simp only[Kc,Db,Pt.kind,Pt.info,Pt.text,Pt.rs,Pt.ro,Pt.rc,S.El];rfl]at y;have x:=V d;clear d L;go_enter func204,ntmps204;go_wp2_with fail
 apply y.m;rintro e s⟨f,h,rfl,Q,R,u,E⟩;have K:=V (λ(H:Sw) (m:Below s s H)=>zj1 C a (k+t.size) (k+t.size) (j++F6 a g k f) l o q A ⟨h,Db t,none,none⟩ (t.toList == [33,91]) H (u.below m) (λW m=>by have:=x.q.inl W m;simp;omega) T);have M:=V E;clear u E;go_wp2_with fail
 refine(K.q s Sr).mono ?_;rintro e ac⟨p,r,rfl,v,D⟩;have z:=V (And.intro v D);clear v D;go_wp2;go_end0;exact⟨f,h,p,r,rfl,Q,R,z.q.1,(x.q.Mx M.q).trans z.q.2⟩
def Bj.kill (a:Bj):Bj:={ a with dead:=a.dead||!a.image }
theorem Nn {w:Sw}{d:Nat}{e:TypeId}{size n:Nat}{v:Value}{l:List Value}(j:w.ownsRow d e size v n l){g:Nat}(k:v.ownBlock=some g)(i:Nat)(a:Value):(w.setCell (g i) a).ownsRow d e size v n (l.set i a):=by
 rcases j.2 with ⟨rfl,_⟩|⟨h,m,f,rfl,o,t,p,q,r,u⟩
 ·simp[Value.ownBlock]at k
 have s:h=g:=by simpa [Value.ownBlock]using k
 subst s;refine⟨by rw[List.length_set];exact j.1,.inr ⟨h,m,(f.toList.set i a).toArray,rfl,o,?_,p,q,by simp[r],?_⟩⟩;·exact Aj (cs:=f.toList) (by simpa using t) i a
 rw[<-u];simp only;rw[List.take_set]
theorem zki (g a:Nat)(f d:Bool)(w:Sw)(j:w.cell? (g (a+1))=some (.bool f))(k:w.cell? (g (a+2))=some (.bool d))(l:w.frozen? (g (a+2))=false):Calls prog 240 #[.pointer (some (g a))] w λe h=>e=.returned (.tuple #[])/\h=w.setCell (g (a+2)) (.bool (d||!f)):=by
 go_enter func240,ntmps240;cases d<;>cases f<;>go_wp2
 all_goals go_end0
 all_goals exact⟨rfl,rfl⟩
theorem FU (a:List Mem)(f g:List Bj)(d:Bj):Fq a (f++d::g)=Fq a f++(Value.pointer ((a[d.j]?).map Mem.ad) :: .bool d.image :: .bool d.dead::Fq a g):=by
 unfold Fq;rw[Qv,List.flatten_append];simp
def Jj (d:So):List Nat:=match d with
 |some a=>[a.block]
 |none=>[]
theorem Cut.killed {C:Nat}{r:Sb}{s k g:Nat}{o:List Mem}{j l:List Bj}{h:Bj}{q:Nat}{A:Nat->Prop}{w:Sw}(f:Cut C r s k o (j++h::l) (some g) q A w):Cut C r s k o (j++h.kill::l) (some g) q A (w.setCell (g (j.length*3+2)) (.bool (h.dead||!h.image))):=by
 have u:(j++h.kill::l).length=(j++h::l).length:=Y;have x:∀n,(Value.slice (some (g:Addr)) n q).ownBlock=some g:=λ_=>rfl;have E:=f.own.lt g (x _);have z:Fq o (j++h.kill::l)=(Fq o (j++h::l)).set (j.length*3+2) (.bool (h.dead||!h.image)):=by
  rw[FU,FU,SG _ _ (by rw[N8];omega),N8,show j.length*3+2-j.length*3=2 by omega];rfl
 have v:∀d,some d≠some g->d≠g:=λd a e=>a (by rw[e]);refine⟨?_,?_,?_,?_,?_,f.above,?_,?_,f.fk,f.kl,f.small,f.bytes,f.runs⟩
 ·rw[u];exact f.ch.move (λd a=>Below.heap_setCell _ _ _ _ (by
   rcases Sc.1 a with rfl|a
   ·show d≠g;omega
   exact v d (f.sep d a)))
 ·intro e y;exact(f.Ab e y).move (λd a=>a) (λd a=>Below.heap_setCell _ _ _ _ (v d (f.dead d a).2.2))
 ·intro d a;have hd:=f.dead d a;exact⟨by simp[World.setCell];exact hd.1,hd.2⟩
 ·rw[u,z];exact Nn f.own (x _) _ _
 ·intro d a;exact f.sep d a
 ·intro d a;rcases Qbh.1 a with a|a
  ·exact f.inl d (SH _ a)
  rcases Sc.1 a with rfl|a
  ·exact f.inl h Y
  exact f.inl d (by simp[a])
 have m:=List.pairwise_append.1 f.up;have t:=List.pairwise_cons.1 m.2.1;refine List.pairwise_append.2 ⟨m.1,List.pairwise_cons.2 ⟨t.1,t.2⟩,λd a D p=>?_⟩;rcases Sc.1 p with rfl|p
 ·exact m.2.2 d a h Y
 exact m.2.2 d a D (by simp[p])
theorem RZ (C:Nat)(t:Sb)(u k:Nat)(r:List Mem)(d:List Bj)(l:So)(p:Nat)(A:Nat->Prop)(w:Sw)(q:Cut C t u k r d l p A w)(ao:d.length<=1000000):Calls prog 239 #[.pointer (some (C 5)),.func (.func 240) #[] #[]] w λe D=>e=.returned (.tuple #[])/\Cut C t u k r (d.map Bj.kill) l p A D/\Fr (Jj l) w D:=by
 have m:=q.cells;have aj:=q.lt;have af:=X m 5 _ rfl;have Q:=V q;clear q m;go_enter func239,ntmps239;go_wp2_with fail
 go_loopg [10] d.length (λn i wr=>∃a f,d=a++f/\n=f.length/\i=.int .i64 (a.length:Nat)/\Cut C t u k r (a.map Bj.kill++f) l p A wr/\Fr (Jj l) w wr)
 case atStart=>exact⟨[],d,rfl,rfl,rfl,Q.q,Fr.refl _ _⟩
 case round=>
  obtain⟨a,f,y,rfl,rfl,h,x⟩:=hrel;have o:d.length=a.length+f.length:=by rw[y];simp
  have F:=V h;have H:=V x;cases f with
  |nil=>
   clear h x;simp only[Qi,Nat.add_zero]at o;have aa:¬((a.length:Int)<(d.length:Int)):=Z;go_wp2;go_end0;have:=F.q;rw[Qbk]at this;exact⟨rfl,this,H.q⟩
  |cons j f=>
   have aa:((a.length:Int)<(d.length:Int)):=by rw[o];simp;omega
   have an:a.length<d.length:=by rw[o];simp
   have K:(a.map Bj.kill++j::f).length=d.length:=by rw[o];simp
   obtain⟨g,ag,M,ak,al⟩:=h.own.form Z;have ac:l=some ⟨g,0,none⟩:=by injection M
   subst ac;have m:=h.cells;rw[K]at m;have af:=X m 5 _ rfl;have G:∀z,(g:Addr).add z=⟨g,z,none⟩:=λz=>by unfold Addr.add;split<;>simp_all
   have v:∀i s,([Value.pointer ((r[j.j]?).map Mem.ad),j.image,j.dead]:List Value)[i]?=some s->wr.cell? (g (a.length*3+i))=some s:=λi s L=>by
    have:=h.own.cells (g:=g) rfl (a.length*3+i) s (by
     rw[FU,Qu (by rw[N8,List.length_map];omega),N8,List.length_map,show a.length*3+i-a.length*3=i by omega];have am:i<3:=(Qb.1 L).1;rw[<-L];rcases i with _|_|_|i<;>first|rfl|omega)
    rw[G]at this;exact this
   have T:wr.frozen? (g (a.length*3+2))=false:=by
    rcases h.own.2 with ⟨E,P⟩|⟨N,ah,ai,ae,_,W,_⟩
    ·rw[K]at P;omega
    have:g=N:=by injection ae with E;injection E with h2;injection h2
    subst this;exact Av W _
   have R:=V (zki g (a.length*3) j.image j.dead wr (v 1 _ rfl) (v 2 _ rfl) T);clear h x m v G M;have ab:=V y;clear y o;go_wp2_with (fail);apply R.m;rintro e D⟨rfl,rfl⟩;go_wp2;go_roundg f.length
   case rel=>
    refine⟨a++[j],f,by rw[ab.q];simp,rfl,Y,?_,H.q.setCell _ (.inl (by simp[Jj])) _⟩;have:=F.q.killed;rw[List.length_map]at this;rw[Qv];simpa using this
   case measure=>simp
theorem ze7 (C:Nat)(a:Sb)(d k:Nat)(j:List Mem)(l:So)(m:Nat)(A:Nat->Prop)(w:Sw)(f:Cut C a d k j [] l m A w):Calls prog 203 #[.pointer (some C)] w λe r=>e=.returned false/\Below w w r:=by
 have p:=V (λ(o:Sw) (q:Below w w o)=>zbj C a d k j l m A o (f.below q));clear f;go_enter func203,ntmps203;go_wp2_with fail
 refine(p.q _ (by first|exact Sr|exact Sr.drew|exact Sr.alloc (Qc _) _)).mono ?_
 rintro e s⟨rfl,g⟩;have h:=V g;clear g;go_wp2;go_ret;exact⟨rfl,h.q.alloc h.q.size _⟩
theorem zg4 (C:Nat)(f:Sb)(g k:Nat)(h:List Mem)(d:List Bj)(j:Bj)(l:So)(m:Nat)(A:Nat->Prop)(w:Sw)(a:Cut C f g k h (d++[j]) l m A w)(v:d.length<=1000000)(hd:j.dead=true):Calls prog 203 #[.pointer (some C)] w λe t=>e=.returned false/\Cut C f g k h d l m A t/\Below C w t:=by
 have u:=a.lt;have p:=V (AU C f g k h d j l m A w a v);rw[hd]at p;have y:=V a;clear a;go_enter func203,ntmps203;go_wp2_with fail
 apply p.m;rintro e x⟨rfl,o,s⟩;have q:=V (And.intro o s);clear o s;go_wp2;go_ret;have r:=q.q.2.below (Sm u) Y;exact⟨rfl,q.q.1.below (Sr.alloc (Qc _) _),r.alloc (by have:=r.size;omega) _⟩
theorem zca (C:Nat)(a:Sb)(x k:Nat)(t:List Mem)(u:List Bj)(o:Bj)(D:So)(E:Nat)(A:Nat->Prop)(w:Sw)(j:Cut C a x k t (u++[o]) D E A w)(af:u.length<=1000000)(hd:o.dead=false)(ar:k+1<=a.size)(ae:S.Gg (a.data.toList.drop (k+1))=false):Calls prog 203 #[.pointer (some C)] w λe g=>e=.returned false/\Cut C a x k t u D E A g/\Below C w g:=by
 have ac:=j.lt;have au:=j.small;have F:=V (AU C a x k t u o D E A w j af);rw[hd]at F;have av:(a.extract (k+1) a.size).size=a.size-(k+1):=Y;have aa:U (∀q,Calls prog 237 #[.string (a.extract (k+1) a.size)] q λe g=>∃v:Sb,e=.returned (.tuple #[v,false])/\Below q.heap.size q g):=V (λq=>by
  have:=JZ (a.extract (k+1) a.size) q Z;rw[Gw,ae]at this;exact this.mono (λe g ⟨v,T,aj,W⟩=>⟨v,T,W⟩))
 have ak:=V j;clear j;go_enter func203,ntmps203;go_wp2_with fail
 apply F.m;rintro e d⟨rfl,r,L⟩;have m:=r.cells;have z:=r.lt;have ag:=X m 0 _ rfl;have ah:=X m 2 _ rfl;have Q:∀h,(d.alloc h).cell? C=some (.string a):=λh=>X ((Sqj d h C z).trans m) 0 _ rfl;have R:∀h,(d.alloc h).cell? (C 2)=some (.int .i64 (k:Nat)):=λh=>X ((Sqj d h C z).trans m) 2 _ rfl;have G:=V (And.intro r L);clear r L m;go_wp2_with fail
 obtain⟨f,l⟩:=Qzz (d.alloc (.cells #[.pointer ((t[o.j]?).map Mem.ad),o.image,false] 253));have y:U (Below d d f):=V (by rw[l];exact Sr.alloc (Qc _) _);have N:f.cell? C=some (.string a):=by rw[l];exact Q _
 have P:f.cell? (C 2)=some (.int .i64 (k:Nat)):=by rw[l];exact R _
 have M:C<f:=Qh z y.q.size;have al:(0:Int)<=(k:Int)+1:=Z;have am:(k:Int)+1<=(a.size:Int):=Z;have an:((k:Int)+1).toNat=k+1:=Z;have ao:(k:Int)<(a.size:Int):=Z;have ap:k<a.size:=Z;have aq:IntKind.i64.wrap ((k:Int)+1)=(k:Int)+1:=by rw[Sqe];omega
 rw[<-l];clear l ag ah Q R;go_region_held3 (λg=>g.cell? C=some (.string a)/\g.cell? (C 2)=some (.int .i64 (k:Nat)))
  ((refine⟨?_,?_⟩<;>(first|assumption|with_reducible exact N|with_reducible exact P)))
  ((go_at_call 237;refine(aa.q f.drew).mono ?_;rintro e ai⟨v,rfl,s⟩;have aw:=(s.cell (p:=⟨C,0,none⟩) M).trans N;have ax:=(s.cell (p:=⟨C,2,none⟩) M).trans P))
 have ab:=V s;clear s;go_wp2;go_ret;have H:=G.q.2.below (Sm ac) Y;have K:Below d d ai:=y.q.trans ((Below.refl _ f).drew.trans ab.q |>.mono y.q.size);exact⟨rfl,G.q.1.below K,H.trans (K.mono (by have:=H.size;omega))⟩
theorem zbd (C:Nat)(d:Sb)(g k:Nat)(m o p:Value)(w:Sw)(h:w.heap[C]?=some (.cells [.string d,.int .i64 (g:Nat),.int .i64 (k:Nat),m,o,p].toArray 168 (0,0)))(s:k<=d.size)(t:Lib.hasPrefix (d.data.toList.drop k) [93]=true)(f:Bool->World->Prop)
  (l:Calls prog 203 #[.pointer (some C)] w.drew λe a=>∃b,e=.returned (.bool b)/\f b a) :
  Calls prog 158 #[.pointer (some C)] w λe a=>∃b,e=.returned (.bool b)/\f b a:=by
 have j:=V (Ng C d ⟨#[93]⟩ g k m o p w h s);rw[show (⟨#[93]⟩:Sb).data.toList=[93] from rfl,t]at j;have r:=V l;clear h l;go_enter func158,ntmps158;go_wp2_with fail
 apply j.m;rintro e a⟨rfl,rfl⟩;go_wp2_with fail
 apply r.m;rintro e a⟨b,rfl,q⟩;go_wp2;go_ret;exact⟨b,rfl,q⟩
theorem ZC (C:Nat)(a:Sb)(f k:Nat)(h j l:Value)(w:Sw)(g:w.heap[C]?=some (.cells [.string a,.int .i64 (f:Nat),.int .i64 (k:Nat),h,j,l].toArray 168 (0,0)))(r:k<=a.size)(u:Lib.hasPrefix (a.data.toList.drop k) [93]=false)(v:Lib.hasPrefix (a.data.toList.drop k) [91]=true)(m:World->Prop)
  (q:Calls prog 204 #[.pointer (some C),.string ⟨#[91]⟩] w.drew.drew λe d=>e=.returned (.tuple #[])/\m d) :
  Calls prog 158 #[.pointer (some C)] w λe d=>e=.returned true/\m d:=by
 have o:=V (Ng C a ⟨#[93]⟩ f k h j l w g r);have p:=V (Ng C a ⟨#[91]⟩ f k h j l w.drew g r);rw[show (⟨#[93]⟩:Sb).data.toList=[93] from rfl,u]at o;rw[show (⟨#[91]⟩:Sb).data.toList=[91] from rfl,v]at p;have t:=V q;clear g q;go_enter func158,ntmps158;go_wp2_with fail
 apply o.m;rintro e d⟨rfl,rfl⟩;go_wp2_with fail
 apply p.m;rintro e d⟨rfl,rfl⟩;go_wp2_with fail
 apply t.m;rintro e d⟨rfl,s⟩;go_wp2;go_ret;exact⟨rfl,s⟩
theorem zfy (C:Nat)(a:Sb)(f k:Nat)(h j l:Value)(w:Sw)(g:w.heap[C]?=some (.cells [.string a,.int .i64 (f:Nat),.int .i64 (k:Nat),h,j,l].toArray 168 (0,0)))(m:k<=a.size)(v:Lib.hasPrefix (a.data.toList.drop k) [93]=false)(x:Lib.hasPrefix (a.data.toList.drop k) [91]=false)(y:Lib.hasPrefix (a.data.toList.drop k) [33,91]=true)(o:World->Prop)
  (s:Calls prog 204 #[.pointer (some C),.string ⟨#[33,91]⟩] w.drew.drew.drew λe d=>e=.returned (.tuple #[])/\o d) :
  Calls prog 158 #[.pointer (some C)] w λe d=>e=.returned true/\o d:=by
 have p:=V (Ng C a ⟨#[93]⟩ f k h j l w g m);have q:=V (Ng C a ⟨#[91]⟩ f k h j l w.drew g m);have r:=V (Ng C a ⟨#[33,91]⟩ f k h j l w.drew.drew g m);rw[show (⟨#[93]⟩:Sb).data.toList=[93] from rfl,v]at p;rw[show (⟨#[91]⟩:Sb).data.toList=[91] from rfl,x]at q;rw[show (⟨#[33,91]⟩:Sb).data.toList=[33,91] from rfl,y]at r;have u:=V s;clear g s;go_enter func158,ntmps158;go_wp2_with fail
 apply p.m;rintro e d⟨rfl,rfl⟩;go_wp2_with fail
 apply q.m;rintro e d⟨rfl,rfl⟩;go_wp2_with fail
 apply r.m;rintro e d⟨rfl,rfl⟩;go_wp2_with fail
 apply u.m;rintro e d⟨rfl,t⟩;go_wp2;go_ret;exact⟨rfl,t⟩
theorem zeo (C:Nat)(a:Sb)(d k:Nat)(h j l:Value)(w:Sw)(f:w.heap[C]?=some (.cells [.string a,.int .i64 (d:Nat),.int .i64 (k:Nat),h,j,l].toArray 168 (0,0)))(m:k<=a.size)(r:Lib.hasPrefix (a.data.toList.drop k) [93]=false)(s:Lib.hasPrefix (a.data.toList.drop k) [91]=false)(t:Lib.hasPrefix (a.data.toList.drop k) [33,91]=false):Calls prog 158 #[.pointer (some C)] w λe g=>e=.returned false/\Below w w g:=by
 have o:=V (Ng C a ⟨#[93]⟩ d k h j l w f m);have p:=V (Ng C a ⟨#[91]⟩ d k h j l w.drew f m);have q:=V (Ng C a ⟨#[33,91]⟩ d k h j l w.drew.drew f m);rw[show (⟨#[93]⟩:Sb).data.toList=[93] from rfl,r]at o;rw[show (⟨#[91]⟩:Sb).data.toList=[91] from rfl,s]at p;rw[show (⟨#[33,91]⟩:Sb).data.toList=[33,91] from rfl,t]at q;clear f;go_enter func158,ntmps158;go_wp2_with fail
 apply o.m;rintro e g⟨rfl,rfl⟩;go_wp2_with fail
 apply p.m;rintro e g⟨rfl,rfl⟩;go_wp2_with fail
 apply q.m;rintro e g⟨rfl,rfl⟩;go_wp2;go_ret;exact⟨rfl,Sr.drew.drew.drew⟩
theorem NN (C:Nat)(T:Nat)(cs:List Value)(P d:List Mem)(a:Mem)(w:Sw)(f:Ch w C 3 T cs (P++a::d)):Calls prog 238 #[.pointer (some (C 3)),.pointer (some a.m),.pointer none] w λe g=>e=.returned (.agg #[.pointer (hd d none),.pointer (A9 d none)])/\Ch g C 3 T cs (P++[a])/\Seg g none d none/\Fr (C::Ad (P++a::d)) w g:=by
 cases d with
 |nil=>
  have k:=f.seg;rw[Eu]at k;have m:=k.2.cells;refine(MV C 3 a [] w (X m 9 _ rfl) (f.mlt a.m (by simp[Ad]))).mono ?_;rintro e g⟨rfl,j⟩;refine⟨rfl,f.move (λl h=>j.block l ?_),trivial,Fr.Ra j⟩;rcases Sc.1 h with rfl|h
  ·exact f.lt
  exact f.mlt l h
 |cons o d=>exact zhu C 3 T cs P d a o w f
theorem zci (P g:List Mem)(a:Mem)(d:List Bj)(f:∀h∈d,h.j<P.length):Fq (P++[a]) d=Fq (P++a::g) d:=by
 rw[Vx _ _ _ f,Vx _ _ _ f]
theorem Cut.taken {C:Nat}{q:Sb}{r k:Nat}{P l:List Mem}{a:Mem}{h:List Bj}{o:So}{p:Nat}{A:Nat->Prop}{w w':Sw}(g:Cut C q r k (P++a::l) h o p A w)(v:∀f∈h,f.j<P.length)(H:Ch w' C 3 168 (Il q r k (.slice o h.length p)) (P++[a]))(s:Fr (C::Ad (P++a::l)) w w'):Cut C q r k (P++[a]) h o p A w':=by
 have x:=g.own.lt;have u:∀f∈Ad (P++[a]),f∈Ad (P++a::l):=λf d=>by
  rw[Jf]at d ⊢;simp[Ad]at d ⊢;rcases d with d|d
  ·exact .inl d
  exact .inr (.inl d)
 have N:w'.ownsRow (C+1) 253 3 (.slice o h.length p) h.length (Fq (P++[a]) h):=by
  rw[zci P l a h v];rcases g.own.2 with F|⟨m,D,E,z,L,M,Q⟩
  ·exact⟨g.own.1,.inl F⟩
  refine⟨g.own.1,.inr ⟨m,D,E,z,L,?_,Q⟩⟩;have t:(Value.slice o h.length p).ownBlock=some m:=by rw[z];rfl
  rw[s.block m (x m t).2 (λj=>by
   rcases Sc.1 j with j|j
   ·have:=(x m t).1;omega
   exact g.sep m j t.symm)]
  exact M
 have y:∀f∈P++[a],f∈P++a::l:=λf d=>by
  rcases Qbh.1 d with d|d
  ·exact SH _ d
  simp at d;subst d;simp
 refine⟨H,?_,?_,N,λf d=>g.sep f (u f d),λf d=>g.above f (u f d),λf d=>by have:=v f d;simp;omega,g.up,g.fk,g.kl,g.small,?_,λf d=>g.runs f (y f d)⟩
 ·intro e K;exact(g.Ab e (y e K)).move (λf d=>d) (λf d=>s.block f (g.dead f d).1 (g.dead f d).2.1)
 ·intro f d;have hd:=g.dead f d;exact⟨Qh hd.1 s.size,λj=>hd.2.1 (by
   rcases Sc.1 j with rfl|j
   ·exact Qx
   exact Qo _ (u f j)),hd.2.2⟩
 have G:=g.bytes;rw[show P++a::l=(P++[a])++l by simp,Qv,Rv]at G;omega
theorem Ch.zc2 {w w':Sw}{C T:Nat}{cs:List Value}{P:List Mem}{a d:Mem}(f:Ch w C 3 T cs (P++[a]))(m:d.m=a.m)(u:w'.heap[a.m]?=some (.cells (Jc d (A9 P none) none).toArray 179 (0,0)))(q:∀h,h∈C::Ad (P++[a])->h≠a.m->w'.heap[h]?=w.heap[h]?):Ch w' C 3 T cs (P++[d]):=by
 have p:Ad (P++[d])=Ad (P++[a]):=by simp[Ad,m]
 have v:=(Eu _ _ _ _ _).1 f.seg;have o:=f.nodup;have l:d.ad=a.ad:=by simp[Mem.ad,m]
 have s:C≠a.m:=λe=>f.q (by rw[e];simp[Ad]);have t:∀e∈P,e.m≠a.m:=λe g j=>by
  rw[Dk]at o;exact(Sqd.1 o).2.2 e.m (List.mem_map_of_mem g) a.m (by simp[Ad]) j
 refine⟨(Eu _ _ _ _ _).2 ⟨?_,?_⟩,?_,by rw[p];exact o,by rw[p];exact f.q⟩
 ·have k:Seg w' none P (hd [a] none):=v.1.move (λe g=>q e.m (Qo _ (by simp[Ad];exact .inl ⟨e,g,rfl⟩)) (t e g));have:hd [d] none=hd [a] none:=by simp[hd,l]
  rw[this];exact k
 ·refine⟨?_,trivial⟩;rw[m];exact u
 have k:=f.hdr.move (q C Qx s);have j:hd (P++[d]) none=hd (P++[a]) none:=by rw[Mq,Mq];simp[hd,l]
 have r:A9 (P++[d]) none=A9 (P++[a]) none:=by rw[J5,J5,l]
 rw[j,r];exact k
theorem Cut.sealed {C:Nat}{y:Sb}{z k:Nat}{P:List Mem}{a h:Mem}{l:List Bj}{o:So}{p:Nat}{A A':Nat->Prop}{w w':Sw}(g:Cut C y z k (P++[a]) l o p A w)(x:∀d∈l,d.j<P.length)(j:h.m=a.m)(s:Fr [a.m] w w')(N:w'.heap[a.m]?=some (.cells (Jc h (A9 P none) none).toArray 179 (0,0)))
  (D:∀d,A d->A' d) (t:∀d,A' d->d<w.heap.size/\d∉C::Ad (P++[a])/\some d≠(Value.slice o l.length p).ownBlock) (T:Ce w A' h.kf h.p.Ab) (ac:h.p.text=[]) (af:h.p.rs=0):Cut C y z k (P++[h]) l o p A' w':=by
 have u:Ad (P++[h])=Ad (P++[a]):=by simp[Ad,j]
 have W:=g.own.lt;have F:a.m∈Ad (P++[a]):=by simp[Ad]
 have ab:w'.ownsRow (C+1) 253 3 (.slice o l.length p) l.length (Fq (P++[h]) l):=by
  rw[Vx _ _ _ x];have r:=g.own;rw[Vx _ _ _ x]at r;rcases r.2 with M|⟨q,K,L,H,Q,R,ae⟩
  ·exact⟨r.1,.inl M⟩
  refine⟨r.1,.inr ⟨q,K,L,H,Q,?_,ae⟩⟩;have v:(Value.slice o l.length p).ownBlock=some q:=by rw[H];rfl
  rw[s.block q (W q v).2 (λj=>by
   simp at j;rw[j]at v;exact g.sep a.m F v.symm)]
  exact R
 have G:∀d,A' d->w'.heap[d]?=w.heap[d]?:=λd f=>s.block d (t d f).1 (λj=>(t d f).2.1 (by simp at j;rw[j];exact Qo _ F));refine⟨g.ch.zc2 j N (λd f aa=>s.block d ?_ (by simpa using aa)),?_,?_,ab,by rw[u];exact g.sep,by rw[u];exact g.above,λd f=>by have:=x d f;simp;omega,g.up,g.fk,g.kl,g.small,?_,?_⟩
 ·rcases Sc.1 f with rfl|f
  ·exact g.lt
  exact g.ch.mlt d f
 ·intro e m;rcases Qbh.1 m with m|m
  ·exact(g.Ab e (SH _ m)).move D (λd f=>G d (D d f))
  simp at m;subst m;exact T.move (λd f=>f) G
 ·intro d f;have hd:=t d f;rw[u];exact⟨Qh hd.1 s.size,hd.2⟩
 ·have E:=g.bytes;rw[Qv,Rv]at E ⊢;simp[txt,ac]at E ⊢;omega
 intro d f;rcases Qbh.1 f with f|f
 ·exact g.runs d (SH _ f)
 simp at f;subst f;omega
def jumps (d:Nat->Act->World->Prop)(f:Exit->Act->World->Prop):Exit->Act->World->Prop
 |.goto g,a,w=>d g a w
 |e,a,w=>f e a w
theorem zkd {P:Program}{a:Act}{w:Sw}{q:Exit->Act->World->Prop}{c:Code}(r:Nat->Code)(l:Nat->Act->World->Prop)(μ:Nat->Act->World->Nat)(G:∀g a w,l g a w->findLabel c g=some (r g))
  (first:c.wp P (jumps l q) a w) (L:∀g a w,l g a w->(r g).wp P (jumps (λk o p=>l k o p/\μ k o p < μ g a w) q) a w):(Code.scope c).wp P q a w:=by
 intro b m s;have E:∀g a w,l g a w->gotoIn g (.inScope c::m)=some (.code (r g) :: .inScope c::m):=λg a w D=>by simp[gotoIn,G g a w D]
 have K:∀n g a w,μ g a w<n->l g a w->∃e o p,q e o p/\Arrives P (lone (b.at a (.code (r g) :: .inScope c::m)) s w) b m s e o p:=by
  intro n;induction n with
  |zero=>intro g a w D;omega
  |succ n H=>
   intro g a w M F;obtain⟨e,h,j,d,f⟩:=L g a w F b (.inScope c::m) s;match e,d,f with
   |.normal,d,f=>exact⟨_,h,j,d,Steps.trans f (.one step_inScope)⟩
   |.exit z,d,f=>exact⟨.exit z,h,j,d,λA x=>f A (by simp[exitTo,x])⟩
   |.goto k,d,f=>
    obtain⟨u,t,C,y,v⟩:=H k h j (by have:=d.2;omega) d.1;exact⟨u,t,C,y,.of_steps (f _ (E k h j d.1)) v⟩
   |.ret,d,f=>exact⟨_,h,j,d,f⟩
   |.panic _,d,f=>exact⟨_,h,j,d,f⟩
   |.outgrown,d,f=>exact⟨_,h,j,d,f⟩
 obtain⟨e,h,j,d,f⟩:=first b (.inScope c::m) s
 match e,d,f with
 |.normal,d,f=>exact⟨_,h,j,d,.head step_scope (Steps.trans f (.one step_inScope))⟩
 |.exit z,d,f=>exact⟨.exit z,h,j,d,λA x=>.head step_scope (f A (by simp[exitTo,x]))⟩
 |.goto k,d,f=>
  obtain⟨u,t,C,y,v⟩:=K _ k h j (Nat.lt_succ_self _) d;exact⟨u,t,C,y,.of_steps (.head step_scope (f _ (E k h j d))) v⟩
 |.ret,d,f=>exact⟨_,h,j,d,.of_steps (.one step_scope) f⟩
 |.panic _,d,f=>exact⟨_,h,j,d,.of_steps (.one step_scope) f⟩
 |.outgrown,d,f=>exact⟨_,h,j,d,.of_steps (.one step_scope) f⟩
theorem Cut.frame {C:Nat}{r:Sb}{s k:Nat}{p:List Mem}{g:List Bj}{l:So}{m:Nat}{A:Nat->Prop}{w w':Sw}{L:List Nat}(a:Cut C r s k p g l m A w)(o:Fr L w w')(q:∀d∈L,d∉C::Ad p/\¬A d/\some d≠(Value.slice l g.length m).ownBlock):Cut C r s k p g l m A w':=by
 have F:=a.own.lt;have G:w'.ownsRow (C+1) 253 3 (.slice l g.length m) g.length (Fq p g):=by
  rcases a.own.2 with y|⟨h,v,x,u,D,E,H⟩
  ·exact⟨a.own.1,.inl y⟩
  refine⟨a.own.1,.inr ⟨h,v,x,u,D,?_,H⟩⟩;have t:(Value.slice l g.length m).ownBlock=some h:=by rw[u];rfl
  rw[o.block h (F h t).2 (λj=>(q h j).2.2 t.symm)];exact E
 refine⟨a.ch.move (λd f=>o.block d ?_ (λj=>(q d j).1 f)),λe z=>(a.Ab e z).move (λd f=>f) (λd f=>o.block d (a.dead d f).1 (λj=>(q d j).2.1 f)),λd f=>⟨Qh (a.dead d f).1 o.size,(a.dead d f).2⟩,G,a.sep,a.above,a.inl,a.up,a.fk,a.kl,a.small,a.bytes,a.runs⟩;rcases Sc.1 f with rfl|f
 ·exact a.lt
 exact a.ch.mlt d f
def madeCells (kd:Int)(r:Sb):List Value:=[.int .i64 kd,.string r,.string ⟨#[]⟩,undef,undef,.int .i64 0,.bool false,.bool false]
structure Wm (C b K:Nat)(ct r:Sb)(P Q:List Mem)(a:Mem)(os:List Bj)(sa:So)(sc:Nat)(A:Nat->Prop)(w:Sw):Prop where
 cut:Cut C ct K K (P++[a]) os sa sc A w
 ch:Ch w b 3 177 (madeCells 13 r) Q
 Ab:Kd w A Q
 dead:∀x,A x->x<w.heap.size/\x∉b::Ad Q
 txt:txt (Q.map Mem.p)<=1000000
 runs:∀x∈Q,x.p.rs<=1000000
 sep:∀x∈b::Ad Q,x∉C::Ad (P++[a])/\¬A x/\some x≠(Value.slice sa os.length sc).ownBlock
theorem KA {C b k:Nat}{q r:Sb}{P g:List Mem}{a:Mem}{o:List Bj}{x:So}{y:Nat}{A:Nat->Prop}{p l:Sw}(h:Cut C q k k (P++a::g) o x y A p)(L:∀d∈o,d.j<P.length)(G:Ch l C 3 168 (Il q k k (.slice x o.length y)) (P++[a]))(K:Seg l none g none)(v:Fr (C::Ad (P++a::g)) p l)(t:l.heap[b]?=some (.cells #[(13:Int),r,(),.pointer (hd g none),.pointer (A9 g none),O,false,false] 177 (0,0)))(M:p<=b):Wm C b k q r P g a o x y A l:=by
 have E:=h.ch.nodup;rw[show P++a::g=(P++[a])++g by simp,Dk]at E;have F:=Sqd.1 E;have m:∀d∈Ad g,d∈Ad (P++a::g):=λd f=>by rw[show P++a::g=(P++[a])++g by simp,Dk];exact SV _ f
 have H:∀d∈Ad (P++[a]),d∈Ad (P++a::g):=λd f=>by rw[show P++a::g=(P++[a])++g by simp,Dk];exact SH _ f
 have z:∀d∈Ad (P++a::g),d<p:=λd f=>h.ch.mlt d f;have D:∀e∈g,e∈P++a::g:=λe u=>by simp[u]
 refine⟨h.taken L G v,⟨K,⟨t,by show 3+1<8;omega⟩,F.2.1,λj=>by have:=z b (m b j);omega⟩,λe u=>(h.Ab e (D e u)).move (λd f=>f) (λd f=>v.block d (h.dead d f).1 (h.dead d f).2.1),λd f=>?_,?_,λd f=>h.runs d (D d f),λd f=>?_⟩
 ·have hd:=h.dead d f;refine⟨Qh hd.1 v.size,λj=>?_⟩;rcases Sc.1 j with j|j
  ·omega
  exact hd.2.1 (Qo _ (m d j))
 ·have t:=h.bytes;rw[show P++a::g=(P++[a])++g by simp,Qv,Rv]at t;have:=h.kl;have:=h.small;omega
 rcases Sc.1 f with rfl|f
 ·refine⟨λj=>?_,λs=>by have:=(h.dead d s).1;omega,λe=>by have:=(h.own.lt d e.symm).2;omega⟩;rcases Sc.1 j with j|j
  ·have:=h.lt;omega
  have:=z d (H d j);omega
 refine⟨λj=>?_,λs=>(h.dead d s).2.1 (Qo _ (m d f)),h.sep d (m d f)⟩;rcases Sc.1 j with j|j
 ·exact h.ch.q (by rw[<-j];exact m d f)
 exact F.2.2 d j d f rfl
theorem Ye {C b o:Nat}{z r:Sb}{P p h:List Mem}{a:Mem}{M m:List Bj}{j:So}{l:Nat}{A s:Nat->Prop}{y x q F:Sw}{cs:List Value}{kd:Int}{t:List UInt8}(u:Wm C b o z r P p a M j l A y)(k:Zn b 3 177 cs p A y h s x)(D:Cut C z o o (P++[a]) m j l A q)(W:∀d∈m,d.j<P.length)(L:x<=q.heap.size)(T:∀d,A d\/s d\/d∈Ad h->q.heap[d]?=x.heap[d]?)
  (Q:Fr [a.m] q F) (N:F.heap[a.m]?=some (.cells (Jc ⟨a.m,.mk kd t [] (He (p.map Mem.p)) 0 false false,hd h none,A9 h none⟩ (A9 P none) none).toArray 179 (0,0))) :
  Cut C z o o (P++[⟨a.m,.mk kd t [] (He (p.map Mem.p)) 0 false false,hd h none,A9 h none⟩]) m j l (λd=>A d\/s d\/d∈Ad h) F:=by
 have H:(Value.slice j m.length l).ownBlock=(Value.slice j M.length l).ownBlock:=by cases j<;>rfl
 have G:∀d,y.heap.size<=d->d∉C::Ad (P++[a])/\some d≠(Value.slice j m.length l).ownBlock:=λd f=>by
  refine⟨λv=>?_,λe=>?_⟩
  ·rcases Sc.1 v with v|v
   ·have:=u.cut.lt;omega
   have:=u.cut.ch.mlt d v;omega
  rw[H]at e;have:=(u.cut.own.lt d e.symm).2;omega
 have K:∀d∈Ad p,d∉C::Ad (P++[a])/\some d≠(Value.slice j m.length l).ownBlock:=λd f=>by
  rw[H];have:=u.sep d (Qo _ f);exact⟨this.1,this.2.2⟩
 have R:Ce x (λd=>A d\/s d\/d∈Ad h) (hd h none) (h.map Mem.p):=Zz k.ch.seg (λe E=>.inr (.inr (List.mem_map_of_mem E))) (λe E=>(k.Ab e E).move (λd f=>.inr (.inl f)) (λ_ _=>rfl));refine D.sealed W rfl Q N (λd f=>.inl f) (λd f=>?_) ?_ rfl rfl
 ·rcases f with f|f|f
  ·exact D.dead d f
  ·refine⟨Qh (k.dead d f).1 L,?_⟩;rcases k.old d f with g|g|g
   ·exact(D.dead d g).2
   ·exact K d g
   exact G d g
  refine⟨Qh (k.ch.mlt d f) L,?_⟩;rcases k.live d f with g|g
  ·exact K d g
  exact G d g
 have g:=R.move (λd f=>f) (w':=q) T;rw[k.part]at g;exact g
def Nv (t:List UInt8)(a:Bool)(l:List Pt):Pt:=.mk (if a then 13 else 12) t [] (He l) 0 false false
theorem V5 {a:So}{n g f:Nat}(d:f∈Jj a):(Value.slice a n g).ownBlock=some f:=by
 cases a<;>simp[Jj]at d;subst d;rfl
theorem JD {C b E:Nat}{F r:Sb}{P o z:List Mem}{a:Mem}{K:List Bj}{j:So}{L:Nat}{A t:Nat->Prop}{p k D s:Sw}{cs:List Value}(l:Wm C b E F r P o a K j L A p)(h:Zn b 3 177 cs o A p z t k)(y:Fr [b] k D)(G:Fr (Jj j) D s):∀d,A d\/t d\/d∈Ad z->s.heap[d]?=k.heap[d]?:=by
 have M:=h.fr.size;have N:=y.size;have u:∀d,A d->d<k.heap.size/\d≠b/\d∉Jj j:=λd f=>⟨by have:=(l.dead d f).1;omega,λe=>(l.sep b Qx).2.1 (e▸f),λm=>(l.cut.dead d f).2.2 (V5 m).symm⟩;have x:∀d∈Ad o,d∉Jj j:=λd f m=>(l.sep d (Qo _ f)).2.2 (V5 m).symm;have v:∀d,p.heap.size<=d->d∉Jj j:=λd f m=>by have:=(l.cut.own.lt d (V5 m)).2;omega
 have H:∀d,d<k.heap.size/\d≠b/\d∉Jj j->s.heap[d]?=k.heap[d]?:=λd q=>by
  rw[G.block d Z q.2.2,y.block d q.1 (by simpa using q.2.1)]
 intro d f;apply H
 rcases f with f|f|f
 ·exact u d f
 ·have hd:=h.dead d f;refine⟨hd.1,λe=>hd.2 (by rw[e];exact Qx),?_⟩;rcases h.old d f with g|g|g
  ·exact(u d g).2.2
  ·exact x d g
  exact v d g
 refine⟨h.ch.mlt d f,λe=>h.ch.q (by rw[<-e];exact f),?_⟩;rcases h.live d f with g|g
 ·exact x d g
 exact v d g
theorem close_some (C:Nat)(q:Sb)(br k n:Nat)(P aw:List Mem)(a:Mem)(Q:List Bj)(L:Bj)(K:So)(ab:Nat)(A:Nat->Prop)(w:Sw)(a3:Cut C q br k (P++a::aw) (Q++[L]) K ab A w)(ca:L.j=P.length)(bj:Q.length<=1000000)(b5:L.dead=false)(ct:k+1<=q.size)(cb:S.Gg (q.data.toList.drop (k+1))=true)(bt:(S.addrOf (q.data.toList.drop (k+1))).length=n)(b7:k+(3+n)<=q.size)(er:Ending->World->Prop)(dv:∀e v,(∃a6 e3 ag kl,e=.returned true/\Cut C q (k+(3+n)) (k+(3+n)) (P++[⟨a.m,Nv (S.addrOf (q.data.toList.drop (k+1))) L.image ((aw++F6 q br k a6).map Mem.p),ag,kl⟩]) (if L.image then Q else Q.map Bj.kill) K ab e3 v/\Below C w v)->er e v):Calls prog 203 #[.pointer (some C)] w er:=by
 have ex:=a3.lt;have c1:=a3.small;have es:=V (AU C q br k (P++a::aw) Q L K ab A w a3 bj);have b6:((P++a::aw)[L.j]?).map Mem.ad=some ⟨a.m,0,none⟩:=by rw[ca];simp
 rw[b5,b6]at es;have c2:(q.extract (k+1) q.size).size=q.size-(k+1):=Y;obtain⟨t,ec⟩:=Qyy (S.addrOf (q.data.toList.drop (k+1)));rw[ec]at bt dv;have cq:=V dv;clear dv;have e5:U (∀cg,Calls prog 237 #[.string (q.extract (k+1) q.size)] cg λe v=>∃D:Sb,e=.returned (.tuple #[D,true])/\U (D.data.toList=t)/\Below cg.heap.size cg v):=V (λcg=>by
  have:=JZ (q.extract (k+1) q.size) cg Z;rw[Gw,cb,ec]at this;exact this.mono (λe v ⟨D,bv,bw,N⟩=>⟨D,bv,V (bw.q rfl),N⟩))
 have a5:U (∀d∈Q,d.j<P.length):=V (λd f=>by
  have:=(List.pairwise_append.1 a3.up).2.2 d f L Y;omega)
 have e8:U (∀d∈C::Ad (P++a::aw),d<w):=V (λd f=>by
  rcases Sc.1 f with rfl|f
  ·exact a3.lt
  exact a3.ch.mlt d f)
 have f1:=V a3;clear a3 ec;go_enter func203,ntmps203;go_wp2_with fail
 apply es.m;rintro e R⟨rfl,ci,d8⟩;have d6:=ci.cells;have ay:=ci.lt;have e1:∀bp,(R.alloc bp).cell? C=some (.string q):=λbp=>X ((Sqj R bp C ay).trans d6) 0 _ rfl;have e2:∀bp,(R.alloc bp).cell? (C 2)=some (.int .i64 (k:Nat)):=λbp=>X ((Sqj R bp C ay).trans d6) 2 _ rfl;have c0:w<=R.heap.size:=d8.size;have bb:=V (And.intro ci d8);clear ci d8 d6;go_wp2_with fail
 obtain⟨ah,ba⟩:=Qzz (R.alloc (.cells #[.pointer (some a.m),L.image,false] 253));have d1:U (Below R R ah):=V (by rw[ba];exact Sr.alloc (Qc _) _);have eb:ah.heap.size=(R:Nat)+1:=by rw[ba];simp
 have ee:ah.heap[R.heap.size]?=some (.cells #[.pointer (some a.m),L.image,false] 253 (0,0)):=by rw[ba];exact Ak _ _
 have ei:ah.cell? C=some (.string q):=by rw[ba];exact e1 _
 have ej:ah.cell? (C 2)=some (.int .i64 (k:Nat)):=by rw[ba];exact e2 _
 have bs:C<ah:=Qh ay d1.q.size;have cj:(0:Int)<=(k:Int)+1:=Z;have ck:(k:Int)+1<=(q.size:Int):=Z;have cl:((k:Int)+1).toNat=k+1:=Z;have cm:(k:Int)<(q.size:Int):=Z;have cn:k<q.size:=Z;have co:IntKind.i64.wrap ((k:Int)+1)=(k:Int)+1:=by rw[Sqe];omega
 obtain⟨g,cr⟩:=Qzz (R.heap.size);rw[<-ba,<-cr];rw[<-cr]at ee eb;have d4:=V cr;have fa:=V eb;clear ba e1 e2 eb cr;go_region_held3 (λv=>v.cell? C=some (.string q)/\v.cell? (C 2)=some (.int .i64 (k:Nat)))
  ((refine⟨?_,?_⟩<;>(first|assumption|with_reducible exact ei|with_reducible exact ej)))
  ((go_at_call 237;refine(e5.q ah.drew).mono ?_;rintro e a7⟨D,rfl,ez,b1⟩;have ce:=(b1.cell (p:=⟨C,0,none⟩) bs).trans ei;have fe:=(b1.cell (p:=⟨C,2,none⟩) bs).trans ej))
 have d0:Below R R a7:=d1.q.trans ((Below.refl _ ah).drew.trans b1 |>.mono d1.q.size);have d3:a7.heap[g]?=some (.cells #[.pointer (some a.m),L.image,false] 253 (0,0)):=(b1.block g (by show g<ah.heap.size;have:=fa.q;omega)).trans ee;have cz:D.size=n:=by rw[<-S.lda,ez.q];exact bt
 have cy:U (S.B t=D):=V (by rw[<-ez.q,S.El]);have et:=V (DJ C q br k (3+n) (P++a::aw) Q K ab A a7 (bb.q.1.below d0) b7);rw[show ((3+n:Nat):Int)=3+(n:Int) by omega]at et;have cd:g<a7:=(Qq.1 d3).1;have bh:g∉C::Ad (P++a::aw):=λr=>by have:=e8.q g r;have:=d4.q;omega
 have ch:=V d0;clear b1 d0 ei ej ce fe ee;go_wp2_with fail
 apply et.m;rintro e h⟨a6,rfl,cv,a8,d9⟩;have cs:h.heap[g]?=some (.cells #[.pointer (some a.m),L.image,false] 253 (0,0)):=(d9.block g cd bh).trans d3;have a2:=X cs 0 _ rfl;obtain⟨j,du⟩:=Qzz (aw++F6 q br k a6);have ea:(P++a::aw)++F6 q br k a6=P++a::j:=by rw[du];simp
 rw[ea]at a8;have au:g∉C::Ad (P++a::j):=λr=>by
  rw[<-ea,Dk]at r;rcases Sc.1 r with r|r
  ·exact bh (by rw[r];exact Qx)
  rcases Qbh.1 r with r|r
  ·exact bh (Qo _ r)
  unfold F6 at r;split at r<;>simp[Ad]at r;omega
 have av:g<h:=(Qq.1 cs).1;have cu:U (∀d∈C::Ad (P++a::j),d<h):=V (λd f=>by
  rcases Sc.1 f with rfl|f
  ·exact a8.lt
  exact a8.ch.mlt d f)
 obtain⟨ai,ev⟩:=Qzz (h.alloc (.cells #[O,(),(),.pointer none,.pointer none,O,false,false] 177));have b8:h.heap.size∉C::Ad (P++a::j):=λr=>by have:=cu.q _ r;omega
 have c3:U (ai.heap[h.heap.size]?=some (.cells #[O,(),(),.pointer none,.pointer none,O,false,false] 177 (0,0))/\ai.heap.size=(h:Nat)+1/\∀d,d<h.heap.size->ai.heap[d]?=h.heap[d]?):=V (by rw[ev];exact⟨Ak _ _,Y,λd f=>Sqj _ _ _ f⟩);have e6:U (Calls prog 238 #[.pointer (some (C 3)),.pointer (some a.m),.pointer none] h.drew λe v=>e=.returned (.agg #[.pointer (hd j none),.pointer (A9 j none)])/\U (Ch v C 3 168 (Il q (k+(3+n)) (k+(3+n)) (.slice K Q.length ab)) (P++[a])/\Seg v none j none/\Fr (C::Ad (P++a::j)) h v)/\v.cell? g=some (.pointer (some a.m))/\¬v.heap.size=g):=V ((NN C 168 (Il q (k+(3+n)) (k+(3+n)) (.slice K Q.length ab)) P j a h.drew (a8.ch.move (λ_ _=>rfl))).mono (λe v ⟨bv,bw,N,H⟩=>⟨bv,V ⟨bw,N,((Fr.refl _ h).drew).trans H (λd f=>.inl f)⟩,(Uj (H.block g av au) 0).trans a2,by have f0:h.heap.size<=v.heap.size:=H.size;omega⟩));have eu:U (Calls prog 238 #[.pointer (some (C 3)),.pointer (some a.m),.pointer none] ai.drew λe v=>e=.returned (.agg #[.pointer (hd j none),.pointer (A9 j none)])/\U (Ch v C 3 168 (Il q (k+(3+n)) (k+(3+n)) (.slice K Q.length ab)) (P++[a])/\Seg v none j none/\Fr (C::Ad (P++a::j)) ai v/\v.heap[h.heap.size]?=some (.cells [.int .i64 0,.string ⟨#[]⟩,.string ⟨#[]⟩,.pointer none,.pointer none,.int .i64 0,.bool false,.bool false].toArray 177 (0,0)))/\v.cell? g=some (.pointer (some a.m))/\(∀i c4,[(.int .i64 0:Value),.string ⟨#[]⟩,.string ⟨#[]⟩,.pointer none,.pointer none,.int .i64 0,.bool false,.bool false][i]?=some c4->v.cell? (h i)=some c4)/\∀i,v.frozen? (h i)=false):=V ((NN C 168 (Il q (k+(3+n)) (k+(3+n)) (.slice K Q.length ab)) P j a ai.drew (a8.ch.move (λd f=>c3.q.2.2 d (cu.q d f)))).mono (λe v ⟨bv,bw,N,H⟩=>by
  have f2:=c3.q.2.1;have G:=(H.block h (by show h.heap.size<ai.heap.size;omega) b8).trans c3.q.1;exact⟨bv,V ⟨bw,N,((Fr.refl _ ai).drew).trans H (λd f=>.inl f),G⟩,(Uj ((H.block g (by show g<ai.heap.size;omega) au).trans (c3.q.2.2 g av)) 0).trans a2,λi c4 fb=>X G i c4 (by simpa using fb),Av G⟩))
 rw[ev]at eu;have N:=V (And.intro a8 d9);have ew:=V cs;have cp:=V du;have cw:¬h.heap.size=g:=Z;have cx:¬g=h.heap.size:=Z;clear a8 d9 cs du ea d3;go_wp2_with fail
 have c5:h.drew.cell? g=some (.pointer (some a.m)):=a2;go_region_held3 (λv=>v.cell? g=some (.pointer (some a.m)))
  ((first|with_reducible assumption|go_keep))
  (first|(go_at_call 238;with_reducible apply e6.m;rintro e a1⟨rfl,H,ce,e9⟩)|(go_at_call 238;with_reducible apply eu.m;rintro e a1⟨rfl,H,ce,a0,fg⟩;have fs:=a0 0 _ rfl;have ft:=a0 1 _ rfl;have fu:=a0 2 _ rfl;have fv:=a0 3 _ rfl;have fw:=a0 4 _ rfl;have fx:=a0 5 _ rfl;have fy:=a0 6 _ rfl;have fz:=a0 7 _ rfl;clear a0))
 ·obtain⟨E,ak⟩:=Qzz (a1.alloc (.cells #[(13:Int),D,(),.pointer (hd j none),.pointer (A9 j none),O,false,false] 177));obtain⟨b,G⟩:=Qzz (a1.heap.size);have fd:h<=a1.heap.size:=H.q.2.2.size;have bd:Fr (C::Ad (P++a::j)) h E:=by rw[ak];exact H.q.2.2.alloc _
  have bm:∀d,d<a1.heap.size->E.heap[d]?=a1.heap[d]?:=λd f=>by rw[ak];exact Sqj _ _ _ f
  have b0:Wm C b (k+(3+n)) q D P j a Q K ab A E:=KA N.q.1 a5.q (H.q.1.move (λd f=>bm d (by rcases Sc.1 f with rfl|f;exact H.q.1.lt;exact H.q.1.mlt d f))) (H.q.2.1.move (λe d7=>bm e.m (H.q.2.1.lt e d7))) bd (by rw[ak,G];exact Ak _ _) Z
  have b4:h<=b:=Z;rw[<-ak,<-G];have s:=V (And.intro b0 bd);clear ak G b0 bd bm H ce e9 fd;have dw:=V (GX b 3 177 (madeCells 13 D) j A E s.q.1.ch s.q.1.Ab s.q.1.dead s.q.1.txt s.q.1.runs);have W:g<E:=Qh av s.q.2.size;have b2:=V ((s.q.2.block g av au).trans ew.q);have az:g∉b::Ad j:=λr=>by
   rcases Sc.1 r with r|r
   ·omega
   exact au (by rw[show P++a::j=(P++[a])++j by simp,Dk];exact Qo _ (SV _ r))
  go_wp2_with fail
  apply dw.m;rintro e l⟨m,bu,rfl,ae⟩;have bc:=(ae.fr.block g W az).trans b2.q;have ek:=X bc 0 _ rfl;have bq:=X bc 1 _ rfl;have T:=V (s.q.1.cut.frame ae.fr s.q.1.sep);have u:l.heap[b]?=some (.cells [.int .i64 13,.string D,.string ⟨#[]⟩,.pointer (hd m none),.pointer (A9 m none),.int .i64 0,.bool false,.bool false].toArray 177 (0,0)):=ae.ch.hdr.1;have aj:=V ae;have bx:U (Below C w l):=V (by
   have dn:Below C w R:=bb.q.2.below (Sm ex) Y;have dp:Below C R a7:=ch.q.mono (Sm ay);have dq:Below C a7 h:=(bb.q.1.below ch.q).Mx N.q.2;have dr:Below C h E:=N.q.1.Mx s.q.2;have ds:Below C E l:=ae.fr.below (by have:=s.q.1.cut.lt;omega) (λd f=>by
    have e4:=N.q.1.lt;rcases Sc.1 f with f|f
    ·omega
    exact Sm (N.q.1.above d (by rw[show P++a::j=(P++[a])++j by simp,Dk];exact SV _ f)))
   exact(((dn.trans dp).trans dq).trans dr).trans ds)
  have y:=((Eu _ _ _ _ _).1 T.q.ch.seg).2.cells;clear ae bc;by_cases bi:L.image=true
  ·rw[bi]at bq;have cf:=X u 0 _ rfl;have fi:=X u 1 _ rfl;have fj:=X u 2 _ rfl;have el:=X u 3 _ rfl;have em:=X u 4 _ rfl;have fk:=X u 5 _ rfl;have fl:=X u 6 _ rfl;have fm:=X u 7 _ rfl;generalize aq:hd m none=ag at el;generalize ar:A9 m none=kl at em;obtain⟨c6,de⟩:∃e,l.cell? a.m=some e:=⟨_,X y 0 _ rfl⟩;obtain⟨c7,df⟩:∃e,l.cell? (a.m 1)=some e:=⟨_,X y 1 _ rfl⟩;obtain⟨c8,dg⟩:∃e,l.cell? (a.m 2)=some e:=⟨_,X y 2 _ rfl⟩;obtain⟨c9,dh⟩:∃e,l.cell? (a.m 3)=some e:=⟨_,X y 3 _ rfl⟩;obtain⟨da,di⟩:∃e,l.cell? (a.m 4)=some e:=⟨_,X y 4 _ rfl⟩;obtain⟨db,dj⟩:∃e,l.cell? (a.m 5)=some e:=⟨_,X y 5 _ rfl⟩;obtain⟨dc,dk⟩:∃e,l.cell? (a.m 6)=some e:=⟨_,X y 6 _ rfl⟩;obtain⟨dd,dl⟩:∃e,l.cell? (a.m 7)=some e:=⟨_,X y 7 _ rfl⟩;have dm:=Av y;have e7:=V u;have dx:=V y;clear u y b6 c2 bt ct b7 ca bj cb c1 b5 cj ck cl cm cn co cw cx b8 av au W az cz bh cd cv a2 c5 c0 ay bs;have bf:=V aq;have bg:=V ar;clear aq ar;go_wp2;refine cq.q _ _ ?_;have bl:=cy.q;have o:C<=a.m:=Sm (T.q.above a.m (by simp[Ad]));refine⟨a6,(λd=>A d\/bu d\/d∈Ad m),hd m none,A9 m none,rfl,?_,(((((((bx.q.setCell o _).setCell o _).setCell o _).setCell o _).setCell o _).setCell o _).setCell o _).setCell o _⟩;rw[bi];have ap:=Ye (kd:=13) (t:=t) s.q.1 aj.q T.q a5.q (Qc _) (λ_ _=>rfl) (((((((((Fr.refl [a.m] l).setCell a.m (.inl Y) (.int .i64 13)).setCell (a.m 1) (.inl Y) (.string D)).setCell (a.m 2) (.inl Y) (.string ⟨#[]⟩)).setCell (a.m 3) (.inl Y) (.pointer ag)).setCell (a.m 4) (.inl Y) (.pointer kl)).setCell (a.m 5) (.inl Y) (.int .i64 0)).setCell (a.m 6) (.inl Y) (.bool false)).setCell (a.m 7) (.inl Y) (.bool false)) (by
    have G:=Aj (Aj (Aj (Aj (Aj (Aj (Aj (Aj dx.q 0 (.int .i64 13)) 1 (.string D)) 2 (.string ⟨#[]⟩)) 3 (.pointer ag)) 4 (.pointer kl)) 5 (.int .i64 0)) 6 (.bool false)) 7 (.bool false);rw[<-bl,<-bf.q,<-bg.q]at G ⊢;exact G)
   rw[cp.q]at ap;exact ap
  have b9:L.image=false:=by simpa using bi
  rw[b9]at bq;have cf:=X u 0 _ rfl;have en:=Av u;obtain⟨aa,bo⟩:=Qzz (l.setCell b (.int .i64 12));have z:Fr [b] l aa:=by rw[bo];exact(Fr.refl _ _).setCell _ (.inl Y) _
  have al:aa.heap[b]?=some (.cells [.int .i64 12,.string D,.string ⟨#[]⟩,.pointer (hd m none),.pointer (A9 m none),.int .i64 0,.bool false,.bool false].toArray 177 (0,0)):=by rw[bo];exact Aj u 0 _
  have bn:=s.q.1.sep b Qx;have bz:=T.q.frame z (λd f=>by simp at f;subst f;exact bn);have dt:=V (RZ C q (k+(3+n)) (k+(3+n)) (P++[a]) Q K ab A aa bz bj);have bk:∀d,d∈Jj K->(Value.slice K Q.length ab).ownBlock=some d:=λd f=>by cases K<;>simp[Jj]at f;subst f;rfl
  have am:b<l:=(Qq.1 u).1;have eg:E<=l.heap.size:=aj.q.fr.size;have af:aa.heap[g]?=some (.cells #[.pointer (some a.m),L.image,false] 253 (0,0)):=by
   rw[z.block g Z (by simp;omega),aj.q.fr.block g W az];exact b2.q
  have ao:g∉Jj K:=λr=>by
   have:=((bb.q.1.own.lt g (bk g r))).2;have:=d4.q;omega
  have an:b∉Jj K:=λr=>bn.2.2 (bk b r).symm;have cc:=V (And.intro z (And.intro al (And.intro af (And.intro ao (And.intro an (And.intro am W))))));have fc:=a5;have ed:=V bo;have d5:=V b4;clear u y b6 c2 bt ct b7 ca bj cb c1 b5 cj ck cl cm cn co cw cx b8 av au W az cz bh cd cv a2 c5 c0 ay bs z al bn bz bk am af ao an eg b4;go_wp2_with fail
  rw[<-ed.q];apply dt.m;rintro e x⟨rfl,a9,ax⟩;obtain⟨z,al,af,ao,an,am,W⟩:=cc.q;have eh:l<=aa.heap.size:=z.size;have M:=(ax.block b Z an).trans al;have b3:=(ax.block g (Qq.1 af).1 ao).trans af;have F:=((Eu _ _ _ _ _).1 a9.ch.seg).2.cells;have fh:=X b3 0 _ rfl;have a2:=X M 0 _ rfl;have fn:=X M 1 _ rfl;have fo:=X M 2 _ rfl;have ep:=X M 3 _ rfl;have eq:=X M 4 _ rfl;have fp:=X M 5 _ rfl;have fq:=X M 6 _ rfl;have fr:=X M 7 _ rfl;generalize aq:hd m none=ag at ep;generalize ar:A9 m none=kl at eq;obtain⟨c6,de⟩:∃e,x.cell? a.m=some e:=⟨_,X F 0 _ rfl⟩;obtain⟨c7,df⟩:∃e,x.cell? (a.m 1)=some e:=⟨_,X F 1 _ rfl⟩;obtain⟨c8,dg⟩:∃e,x.cell? (a.m 2)=some e:=⟨_,X F 2 _ rfl⟩;obtain⟨c9,dh⟩:∃e,x.cell? (a.m 3)=some e:=⟨_,X F 3 _ rfl⟩;obtain⟨da,di⟩:∃e,x.cell? (a.m 4)=some e:=⟨_,X F 4 _ rfl⟩;obtain⟨db,dj⟩:∃e,x.cell? (a.m 5)=some e:=⟨_,X F 5 _ rfl⟩;obtain⟨dc,dk⟩:∃e,x.cell? (a.m 6)=some e:=⟨_,X F 6 _ rfl⟩;obtain⟨dd,dl⟩:∃e,x.cell? (a.m 7)=some e:=⟨_,X F 7 _ rfl⟩;have dm:=Av F;have bf:=V aq;have bg:=V ar;have ac:=V (And.intro a9 ax);have dy:=V F;clear aq ar a9 ax M b3 F z al af ao an am W eh ek bq cf en;go_wp2;refine cq.q _ _ ?_;have bl:=cy.q;obtain⟨z,_,_,_,_,am,_⟩:=cc.q;have o:C<=a.m:=Sm (T.q.above a.m (by simp[Ad]));have d2:Below C w x:=(bx.q.trans (z.below (by have:=T.q.lt;omega) (λd f=>by simp at f;subst f;have:=N.q.1.lt;have:=d5.q;omega))).trans (ac.q.2.below (by have:=ac.q.1.lt;have:=T.q.lt;have:=z.size;omega) (λd f=>by have:=(ac.q.1.own.lt d (V5 f)).1;omega));refine⟨a6,(λd=>A d\/bu d\/d∈Ad m),hd m none,A9 m none,rfl,?_,(((((((d2.setCell o _).setCell o _).setCell o _).setCell o _).setCell o _).setCell o _).setCell o _).setCell o _⟩;rw[b9];have ap:=Ye (kd:=12) (t:=t) s.q.1 aj.q ac.q.1 (λd f=>by obtain⟨eo,ef,rfl⟩:=List.mem_map.1 f;exact a5.q eo ef) (Qj z.size ac.q.2.size) (JD s.q.1 aj.q z ac.q.2) (((((((((Fr.refl [a.m] x).setCell a.m (.inl Y) (.int .i64 12)).setCell (a.m 1) (.inl Y) (.string D)).setCell (a.m 2) (.inl Y) (.string ⟨#[]⟩)).setCell (a.m 3) (.inl Y) (.pointer ag)).setCell (a.m 4) (.inl Y) (.pointer kl)).setCell (a.m 5) (.inl Y) (.int .i64 0)).setCell (a.m 6) (.inl Y) (.bool false)).setCell (a.m 7) (.inl Y) (.bool false)) (by
   have G:=Aj (Aj (Aj (Aj (Aj (Aj (Aj (Aj dy.q 0 (.int .i64 12)) 1 (.string D)) 2 (.string ⟨#[]⟩)) 3 (.pointer ag)) 4 (.pointer kl)) 5 (.int .i64 0)) 6 (.bool false)) 7 (.bool false);rw[<-bl,<-bf.q,<-bg.q]at G ⊢;exact G)
  rw[cp.q]at ap;exact ap
 obtain⟨E,ak⟩:=Qzz (((((((((a1.setCell h (.int .i64 13)).setCell (h 1) (.string D)).setCell (h 2) (.string ⟨#[]⟩)).setCell (h 3) (.pointer (hd j none))).setCell (h 4) (.pointer (A9 j none))).setCell (h 5) (.int .i64 0)).setCell (h 6) (.bool false)).setCell (h 7) (.bool false)));obtain⟨b,G⟩:=Qzz (h.heap.size);have ey:Fr (C::Ad (P++a::j)) h a1:=((Fr.refl _ h).alloc _).trans H.q.2.2.1 (λd f=>.inl f);have bd:Fr (C::Ad (P++a::j)) h E:=by rw[ak];exact(((((((ey.setCell _ (.inr (Qc _)) _).setCell _ (.inr (Qc _)) _).setCell _ (.inr (Qc _)) _).setCell _ (.inr (Qc _)) _).setCell _ (.inr (Qc _)) _).setCell _ (.inr (Qc _)) _).setCell _ (.inr (Qc _)) _).setCell _ (.inr (Qc _)) _
 have bm:∀d,d<h.heap.size->E.heap[d]?=a1.heap[d]?:=λd f=>by
  have a4:d≠h.heap.size:=Z;rw[ak,Below.heap_setCell _ _ _ _ a4,Below.heap_setCell _ _ _ _ a4,Below.heap_setCell _ _ _ _ a4,Below.heap_setCell _ _ _ _ a4,Below.heap_setCell _ _ _ _ a4,Below.heap_setCell _ _ _ _ a4,Below.heap_setCell _ _ _ _ a4,Below.heap_setCell _ _ _ _ a4]
 have e0:∀d∈C::Ad (P++[a]),d<h:=λd f=>cu.q d (by
  rcases Sc.1 f with rfl|f
  ·exact Qx
  rw[show P++a::j=(P++[a])++j by simp,Dk];exact Qo _ (SH _ f))
 have b0:Wm C b (k+(3+n)) q D P j a Q K ab A E:=KA N.q.1 a5.q (H.q.1.move (λd f=>bm d (e0 d f))) (H.q.2.1.move (λe d7=>bm e.m (cu.q e.m (by rw[show P++a::j=(P++[a])++j by simp,Dk];exact Qo _ (SV _ (List.mem_map_of_mem d7)))))) bd (by
  rw[ak,G];exact Aj (Aj (Aj (Aj (Aj (Aj (Aj (Aj H.q.2.2.2 0 _) 1 _) 2 _) 3 _) 4 _) 5 _) 6 _) 7 _) Z
 have b4:h<=b:=Z;rw[<-ak,<-G];have s:=V (And.intro b0 bd);clear ak b0 bd bm H ce ey e0 fs ft fu fv fw fx fy fz fg G;have dw:=V (GX b 3 177 (madeCells 13 D) j A E s.q.1.ch s.q.1.Ab s.q.1.dead s.q.1.txt s.q.1.runs);have W:g<E:=Qh av s.q.2.size;have b2:=V ((s.q.2.block g av au).trans ew.q);have az:g∉b::Ad j:=λr=>by
  rcases Sc.1 r with r|r
  ·omega
  exact au (by rw[show P++a::j=(P++[a])++j by simp,Dk];exact Qo _ (SV _ r))
 go_wp2_with fail
 apply dw.m;rintro e l⟨m,bu,rfl,ae⟩;have bc:=(ae.fr.block g W az).trans b2.q;have ek:=X bc 0 _ rfl;have bq:=X bc 1 _ rfl;have T:=V (s.q.1.cut.frame ae.fr s.q.1.sep);have u:l.heap[b]?=some (.cells [.int .i64 13,.string D,.string ⟨#[]⟩,.pointer (hd m none),.pointer (A9 m none),.int .i64 0,.bool false,.bool false].toArray 177 (0,0)):=ae.ch.hdr.1;have aj:=V ae;have bx:U (Below C w l):=V (by
  have dn:Below C w R:=bb.q.2.below (Sm ex) Y;have dp:Below C R a7:=ch.q.mono (Sm ay);have dq:Below C a7 h:=(bb.q.1.below ch.q).Mx N.q.2;have dr:Below C h E:=N.q.1.Mx s.q.2;have ds:Below C E l:=ae.fr.below (by have:=s.q.1.cut.lt;omega) (λd f=>by
   have e4:=N.q.1.lt;rcases Sc.1 f with f|f
   ·omega
   exact Sm (N.q.1.above d (by rw[show P++a::j=(P++[a])++j by simp,Dk];exact SV _ f)))
  exact(((dn.trans dp).trans dq).trans dr).trans ds)
 have y:=((Eu _ _ _ _ _).1 T.q.ch.seg).2.cells;clear ae bc;by_cases bi:L.image=true
 ·rw[bi]at bq;have cf:=X u 0 _ rfl;have fi:=X u 1 _ rfl;have fj:=X u 2 _ rfl;have el:=X u 3 _ rfl;have em:=X u 4 _ rfl;have fk:=X u 5 _ rfl;have fl:=X u 6 _ rfl;have fm:=X u 7 _ rfl;generalize aq:hd m none=ag at el;generalize ar:A9 m none=kl at em;obtain⟨c6,de⟩:∃e,l.cell? a.m=some e:=⟨_,X y 0 _ rfl⟩;obtain⟨c7,df⟩:∃e,l.cell? (a.m 1)=some e:=⟨_,X y 1 _ rfl⟩;obtain⟨c8,dg⟩:∃e,l.cell? (a.m 2)=some e:=⟨_,X y 2 _ rfl⟩;obtain⟨c9,dh⟩:∃e,l.cell? (a.m 3)=some e:=⟨_,X y 3 _ rfl⟩;obtain⟨da,di⟩:∃e,l.cell? (a.m 4)=some e:=⟨_,X y 4 _ rfl⟩;obtain⟨db,dj⟩:∃e,l.cell? (a.m 5)=some e:=⟨_,X y 5 _ rfl⟩;obtain⟨dc,dk⟩:∃e,l.cell? (a.m 6)=some e:=⟨_,X y 6 _ rfl⟩;obtain⟨dd,dl⟩:∃e,l.cell? (a.m 7)=some e:=⟨_,X y 7 _ rfl⟩;have dm:=Av y;have e7:=V u;have dx:=V y;clear u y b6 c2 bt ct b7 ca bj cb c1 b5 cj ck cl cm cn co cw cx b8 av au W az cz bh cd cv a2 c5 c0 ay bs;have bf:=V aq;have bg:=V ar;clear aq ar;go_wp2;refine cq.q _ _ ?_;have bl:=cy.q;have o:C<=a.m:=Sm (T.q.above a.m (by simp[Ad]));refine⟨a6,(λd=>A d\/bu d\/d∈Ad m),hd m none,A9 m none,rfl,?_,(((((((bx.q.setCell o _).setCell o _).setCell o _).setCell o _).setCell o _).setCell o _).setCell o _).setCell o _⟩;rw[bi];have ap:=Ye (kd:=13) (t:=t) s.q.1 aj.q T.q a5.q (Qc _) (λ_ _=>rfl) (((((((((Fr.refl [a.m] l).setCell a.m (.inl Y) (.int .i64 13)).setCell (a.m 1) (.inl Y) (.string D)).setCell (a.m 2) (.inl Y) (.string ⟨#[]⟩)).setCell (a.m 3) (.inl Y) (.pointer ag)).setCell (a.m 4) (.inl Y) (.pointer kl)).setCell (a.m 5) (.inl Y) (.int .i64 0)).setCell (a.m 6) (.inl Y) (.bool false)).setCell (a.m 7) (.inl Y) (.bool false)) (by
   have G:=Aj (Aj (Aj (Aj (Aj (Aj (Aj (Aj dx.q 0 (.int .i64 13)) 1 (.string D)) 2 (.string ⟨#[]⟩)) 3 (.pointer ag)) 4 (.pointer kl)) 5 (.int .i64 0)) 6 (.bool false)) 7 (.bool false);rw[<-bl,<-bf.q,<-bg.q]at G ⊢;exact G)
  rw[cp.q]at ap;exact ap
 have b9:L.image=false:=by simpa using bi
 rw[b9]at bq;have cf:=X u 0 _ rfl;have en:=Av u;obtain⟨aa,bo⟩:=Qzz (l.setCell b (.int .i64 12));have z:Fr [b] l aa:=by rw[bo];exact(Fr.refl _ _).setCell _ (.inl Y) _
 have al:aa.heap[b]?=some (.cells [.int .i64 12,.string D,.string ⟨#[]⟩,.pointer (hd m none),.pointer (A9 m none),.int .i64 0,.bool false,.bool false].toArray 177 (0,0)):=by rw[bo];exact Aj u 0 _
 have bn:=s.q.1.sep b Qx;have bz:=T.q.frame z (λd f=>by simp at f;subst f;exact bn);have dt:=V (RZ C q (k+(3+n)) (k+(3+n)) (P++[a]) Q K ab A aa bz bj);have bk:∀d,d∈Jj K->(Value.slice K Q.length ab).ownBlock=some d:=λd f=>by cases K<;>simp[Jj]at f;subst f;rfl
 have am:b<l:=(Qq.1 u).1;have eg:E<=l.heap.size:=aj.q.fr.size;have af:aa.heap[g]?=some (.cells #[.pointer (some a.m),L.image,false] 253 (0,0)):=by
  rw[z.block g Z (by simp;omega),aj.q.fr.block g W az];exact b2.q
 have ao:g∉Jj K:=λr=>by
  have:=((bb.q.1.own.lt g (bk g r))).2;have:=d4.q;omega
 have an:b∉Jj K:=λr=>bn.2.2 (bk b r).symm;have cc:=V (And.intro z (And.intro al (And.intro af (And.intro ao (And.intro an (And.intro am W))))));have fc:=a5;have ed:=V bo;have d5:=V b4;clear u y b6 c2 bt ct b7 ca bj cb c1 b5 cj ck cl cm cn co cw cx b8 av au W az cz bh cd cv a2 c5 c0 ay bs z al bn bz bk am af ao an eg b4;go_wp2_with fail
 rw[<-ed.q];apply dt.m;rintro e x⟨rfl,a9,ax⟩;obtain⟨z,al,af,ao,an,am,W⟩:=cc.q;have eh:l<=aa.heap.size:=z.size;have M:=(ax.block b Z an).trans al;have b3:=(ax.block g (Qq.1 af).1 ao).trans af;have F:=((Eu _ _ _ _ _).1 a9.ch.seg).2.cells;have fh:=X b3 0 _ rfl;have a2:=X M 0 _ rfl;have fn:=X M 1 _ rfl;have fo:=X M 2 _ rfl;have ep:=X M 3 _ rfl;have eq:=X M 4 _ rfl;have fp:=X M 5 _ rfl;have fq:=X M 6 _ rfl;have fr:=X M 7 _ rfl;generalize aq:hd m none=ag at ep;generalize ar:A9 m none=kl at eq;obtain⟨c6,de⟩:∃e,x.cell? a.m=some e:=⟨_,X F 0 _ rfl⟩;obtain⟨c7,df⟩:∃e,x.cell? (a.m 1)=some e:=⟨_,X F 1 _ rfl⟩;obtain⟨c8,dg⟩:∃e,x.cell? (a.m 2)=some e:=⟨_,X F 2 _ rfl⟩;obtain⟨c9,dh⟩:∃e,x.cell? (a.m 3)=some e:=⟨_,X F 3 _ rfl⟩;obtain⟨da,di⟩:∃e,x.cell? (a.m 4)=some e:=⟨_,X F 4 _ rfl⟩;obtain⟨db,dj⟩:∃e,x.cell? (a.m 5)=some e:=⟨_,X F 5 _ rfl⟩;obtain⟨dc,dk⟩:∃e,x.cell? (a.m 6)=some e:=⟨_,X F 6 _ rfl⟩;obtain⟨dd,dl⟩:∃e,x.cell? (a.m 7)=some e:=⟨_,X F 7 _ rfl⟩;have dm:=Av F;have bf:=V aq;have bg:=V ar;have ac:=V (And.intro a9 ax);have dy:=V F;clear aq ar a9 ax M b3 F z al af ao an am W eh ek bq cf en;go_wp2;refine cq.q _ _ ?_;have bl:=cy.q;obtain⟨z,_,_,_,_,am,_⟩:=cc.q;have o:C<=a.m:=Sm (T.q.above a.m (by simp[Ad]));have d2:Below C w x:=(bx.q.trans (z.below (by have:=T.q.lt;omega) (λd f=>by simp at f;subst f;have:=N.q.1.lt;have:=d5.q;omega))).trans (ac.q.2.below (by have:=ac.q.1.lt;have:=T.q.lt;have:=z.size;omega) (λd f=>by have:=(ac.q.1.own.lt d (V5 f)).1;omega));refine⟨a6,(λd=>A d\/bu d\/d∈Ad m),hd m none,A9 m none,rfl,?_,(((((((d2.setCell o _).setCell o _).setCell o _).setCell o _).setCell o _).setCell o _).setCell o _).setCell o _⟩;rw[b9];have ap:=Ye (kd:=12) (t:=t) s.q.1 aj.q ac.q.1 (λd f=>by obtain⟨eo,ef,rfl⟩:=List.mem_map.1 f;exact a5.q eo ef) (Qj z.size ac.q.2.size) (JD s.q.1 aj.q z ac.q.2) (((((((((Fr.refl [a.m] x).setCell a.m (.inl Y) (.int .i64 12)).setCell (a.m 1) (.inl Y) (.string D)).setCell (a.m 2) (.inl Y) (.string ⟨#[]⟩)).setCell (a.m 3) (.inl Y) (.pointer ag)).setCell (a.m 4) (.inl Y) (.pointer kl)).setCell (a.m 5) (.inl Y) (.int .i64 0)).setCell (a.m 6) (.inl Y) (.bool false)).setCell (a.m 7) (.inl Y) (.bool false)) (by
  have G:=Aj (Aj (Aj (Aj (Aj (Aj (Aj (Aj dy.q 0 (.int .i64 12)) 1 (.string D)) 2 (.string ⟨#[]⟩)) 3 (.pointer ag)) 4 (.pointer kl)) 5 (.int .i64 0)) 6 (.bool false)) 7 (.bool false);rw[<-bl,<-bf.q,<-bg.q]at G ⊢;exact G)
 rw[cp.q]at ap;exact ap
