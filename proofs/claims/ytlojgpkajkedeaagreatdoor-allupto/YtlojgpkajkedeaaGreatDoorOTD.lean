import Derived.Test.YtlojgpkajkedeaaGreatDoorOTB
import Derived.Test.YtlojgpkajkedeaaGreatDoorORY
import Derived.Maps.AppendAt
set_option maxHeartbeats 0
set_option maxRecDepth 100000
namespace Go.Proofs.YtlojgpkajkedeaaGreatDoor
open Go.RowKit Go.Proofs.Tryz
def Hq (l:List Af):Nat:=(l.map (λa=>a.s.length+a.left)).sum
theorem NR (a:List (Af×Value)):Ct a=Hq (a.map Prod.fst):=by simp[Ct,Hq,Function.comp_def]
def Io (l:List Af):Nat->Option Nat
 |0=>none
 |k+1=>match l[k]? with
  |some a=>if a.what=3 then some k else Io l k
  |none=>Io l k
theorem NH (l:List Af)(n k:Nat)(a:Io l n=some k):k<n/\∃d,l[k]?=some d/\d.what=3:=by
 induction n with
 |zero=>simp[Io]at a
 |succ n g=>
  simp only[Io]at a;split at a
  ·rename_i d m;split at a
   ·rename_i j;cases a;exact⟨Z,d,m,j⟩
   obtain⟨h,f⟩:=g a;exact⟨Z,f⟩
  obtain⟨h,f⟩:=g a;exact⟨Z,f⟩
def Dq (a:Bool)(m:Af):Af:=if m.what=3/\a=false/\m.im=false then { m with dead:=true } else m
def Jl (l:List Af)(t:List UInt8)(p:Nat)(f:List Af)(g:Nat):Prop:=
 (Io l l.length=none/\f=l++[Cn [93]]/\g=p+1) \/
 (∃a d,Io l l.length=some a/\l[a]?=some d/\(d.dead=true\/tgt t (p+1)=0)/\f=l.set a { d with what:=0 } ++ [Cn [93]]/\g=p+1) \/
 (∃a d h,Io l l.length=some a/\l[a]?=some d/\d.dead=false/\0<tgt t (p+1)/\Ii (l.drop (a+1)) 0 h/\f=(l.take a).map (Dq d.im)++[C8 (.nd (if d.im=true then 13 else 12) 0 ((t.take (tgt t (p+1)-1)).drop (p+2)) [] 0 h)]/\g=tgt t (p+1))
theorem WW (l:List UInt8)(p:Nat)(d:0<tgt l p):p+2<=tgt l p/\tgt l p<=l.length:=by
 unfold tgt at d ⊢;by_cases a:S.Gg (l.drop p)=true
 ·rw[if_pos a]at d ⊢;refine⟨Z,?_⟩;unfold S.Gg at a;rw[SE,Kw,Kw]at a;have f:=(Qb.1 a.2).1;rw[Qf,Qf,Qbb]at f;rw[show p+1=p+1 from rfl]at *;omega
 rw[if_neg a]at d;omega
theorem Dt.one {j:Nat}{d:List (Af×Value)}{a:So}{k g cap1:Nat}{wr f w2:Sw}{m:Obj}{np:Af}{kv:Value}(r:Dt (λh=>j<=h) j d (.slice a d.length k) wr)(o:Below wr wr f)(v:j<=wr)(C:Bv f (λh=>j<=h/\h<f.heap.size/\some h≠(Value.slice a d.length k).ownBlock) kv np.node.Ab)
  (z:w2.ownsRow j 196 16 (.slice (some g) (d.length+1) cap1) (d.length+1) (Ba d++Dg np kv)) (t:(f.alloc m).grownBy w2 (Value.slice a d.length k).ownBlock) (x:(Value.slice a d.length k).ownBlock=some g\/g=(f:Nat)+1) :
  Dt (λh=>j<=h) j (d++[(np,kv)]) (.slice (some g) (d++[(np,kv)]).length cap1) w2/\Below j wr w2:=by
 have p:Below f f (f.alloc m):=Sr.alloc (Qc _) m;have s:=o.trans (p.mono o.size);have D:=p.size;refine⟨(r.after s).many (rs:=[(np,kv)]) (λi u q=>?_) (by simpa [Ba]using z) t (by
  rcases x with e|e
  ·exact .inl e
  exact .inr (by rw[e];simp)),?_⟩
 ·have y:i=0:=by have:=(Qb.1 q).1;simp at this;exact this
  subst y;simp at q;subst q;exact C.move (λ_ l=>⟨l.1,Z,l.2.2⟩) (λh l=>p.block h l.2.1)
 exact Sqi (s.mono v) t (by have:=o.size;omega) (λu A=>(r.own.lt u A).1)
theorem Jl.small {l m:List Af}{t:List UInt8}{p x:Nat}(d:Jl l t p m x):m.length<=l.length+1/\Hq m<=Hq l+1:=by
 have f:∀h b,Hq (h++b)=Hq h+Hq b:=λh b=>by simp[Hq]
 have o:Hq [Cn [93]]=1:=by simp[Hq,Cn]
 rcases d with ⟨_,d,_⟩|⟨a,g,_,k,_,d,_⟩|⟨a,g,z,y,k,_,_,_,d,_⟩
 ·rw[d];exact⟨Y,by rw[f,o];omega⟩
 ·have u:Hq (l.set a { g with what:=0 })=Hq l:=by
   have j:(l.set a { g with what:=0 }).map (λp=>p.s.length+p.left)=l.map (λp=>p.s.length+p.left):=by
    rw[List.map_set];apply List.ext_getElem?
    intro i;by_cases e:a=i
    ·subst e;have s:=(Qb.1 k).1;rw[List.getElem?_set_self (by simpa using s),SA,k];rfl
    rw[List.getElem?_set_ne e]
   unfold Hq;rw[j]
  rw[d];exact⟨Y,by rw[f,o,u];omega⟩
 have j:((l.take a).map (Dq g.im)).map (λp=>p.s.length+p.left)=(l.take a).map (λp=>p.s.length+p.left):=by
  rw[List.map_map];apply List.map_congr_left
  intro A _;simp only[Function.comp];unfold Dq;split<;>rfl
 have v:Hq (l.take a)<=Hq l:=by
  have:Hq l=Hq (l.take a)+Hq (l.drop a):=by rw[<-f,Sy]
  omega
 have r:∀q,Hq [C8 q]=0:=λq=>by simp[Hq,C8]
 rw[d];constructor
 ·rw[Qa,List.length_map,Ql];simp;omega
 rw[f,r];unfold Hq at v ⊢;rw[j];omega
structure IG (D:Nat)(w:Sw)(nb:Nat)(kd:Int)(inf:Sb)(va:So)(vn vc:Nat)(ns:List Rn)(wx:Sw):Prop where
 pos:w<=nb
 lt:nb<wx
 below:Below w w wx
 blk:wx.heap[nb]?=some (.cells #[O,kd,O,inf,(),O,.slice va vn vc] 118 (0,0))
 rep:Bv wx (λx=>(D<=x/\x<w)\/(w.heap.size<=x/\x<wx)) (.slice va vn vc) ns
theorem XJ {l:Nat}{w j a:Sw}{kd:Int}{k:Sb}{f:So}{h g:Nat}{ns:List Rn}(o:Below w w j)(t:Bv a (λd=>(l<=d/\d<w)\/(j.heap.size<=d/\d<a)) (.slice f h g) ns)(p:Below j j a):IG l w a kd k f h g ns (a.alloc (.cells #[O,kd,O,k,(),O,.slice f h g] 118)):=by
 have s:=o.size;have u:=p.size;have q:Below a a (a.alloc (.cells #[O,kd,O,k,(),O,.slice f h g] 118)):=Sr.alloc (Qc _) _;have v:=q.size;exact⟨Z,Y,(o.trans (p.mono s)).alloc Z _,Ak _ _,t.move (λd r=>by
  rcases r with m|m
  ·exact .inl m
  exact .inr ⟨Z,Z⟩) (λd r=>q.block d Z)⟩
theorem OY {o:Nat}{w a g:Sw}{kd:Int}{q:Sb}{k:So}{m l:Nat}{ns:List Rn}(p:Below w w a)(u:a.heap.size=(w:Nat)+1)
  (f:a.heap[w.heap.size]?=some (.cells #[O,O,O,(),(),O,Sx] 118 (0,0)))
  (s:Bv g (λd=>(o<=d/\d<w)\/(a.heap.size<=d/\d<g)) (.slice k m l) ns) (j:Below a a g) :
  IG o w w kd q k m l ns (((((((g.setCell w (.int .i64 0)).setCell (w 1) (.int .i64 kd)).setCell (w 2) (.int .i64 0)).setCell (w 3) (.string q)).setCell (w 4) (.string ⟨#[]⟩)).setCell (w 5) (.int .i64 0)).setCell (w 6) (.slice k m l)):=by
 have r:=p.size;have t:=j.size;refine⟨Qc _,by rw[J9];omega,Iq (p.trans (j.mono r)) (Qc _) _ _ _ _ _ _ _,I8 ((j.block w Z).trans f) _ _ _ _ _ _ _,(Ke s (N:=w.heap.size) (λd f e=>Z) _ _ _ _ _ _ _).move (λd f=>?_) (λ_ _=>rfl)⟩;rw[J9];rcases f with h|h
 ·exact .inl h
 exact .inr ⟨Z,h.2⟩
def dz (d:Bool)(i:Nat)(A:List (Af×Value)):List (Af×Value):=(A.take i).map (λa=>(Dq d a.1,a.2))++A.drop i
theorem OA (a:Bool)(i:Nat)(A:List (Af×Value)):(dz a i A).length=A.length:=by
 unfold dz;rw[Qa,List.length_map,Ql,Qf];omega
theorem UK (f:Bool)(i:Nat)(A:List (Af×Value))(a:Af×Value)(d:A[i]?=some a):(dz f i A)[i]?=some a:=by
 have h:=(Qb.1 d).1;unfold dz;have g:((A.take i).map (λa=>(Dq f a.1,a.2))).length=i:=by rw[List.length_map,Ql];omega
 rw[Qu Z,g,Nat.sub_self,Qn,SL,d]
theorem TW (d:Bool)(i:Nat)(A:List (Af×Value))(a:Af×Value)(f:A[i]?=some a):dz d (i+1) A=(dz d i A).set i (Dq d a.1,a.2):=by
 obtain⟨g,j⟩:=Qb.1 f;unfold dz;have h:((A.take i).map (λa=>(Dq d a.1,a.2))).length=i:=by rw[List.length_map,Ql];omega
 rw[SG _ _ Z,h,Nat.sub_self,Qm g,j,List.set_cons_zero,Sv,f];simp
theorem zda (a:Bool)(i:Nat)(A:List (Af×Value))(d:Af×Value)(f:A[i]?=some d)(hd:Dq a d.1=d.1):dz a (i+1) A=dz a i A:=by
 rw[TW a i A d f,hd];apply List.ext_getElem?
 intro g;by_cases e:i=g
 ·subst e;rw[List.getElem?_set_self (by rw[OA];exact(Qb.1 f).1),UK a i A d f]
 rw[List.getElem?_set_ne e]
theorem YU (a:Bool)(A:List (Af×Value)):dz a 0 A=A:=by simp[dz]
theorem zhw (a:Bool)(A:List (Af×Value)):dz a A.length A=A.map (λd=>(Dq a d.1,d.2)):=by simp[dz]
theorem za8 (j:Nat)(a:So)(K:Nat)(g:List (Af×Value))(s:Sb)(p:Nat)(w:Sw)(bv:Dt (λf=>j<=f) j g (.slice a g.length K) w)(cg:j<=w)(fe:s.size<=1000000)(gf:p<s.size)(gk:g.length+Ct g<=3000000)(du:∀(i:Nat) (m:Af×Value),g[i]?=some m->m.1.n<=1000000):Calls prog 139 #[.slice a g.length K,s,p] w λe a9=>∃(y:List (Af×Value)) (au:So) (c4 d8:Nat),e=.returned (.tuple #[.slice au y.length c4,d8])/\U (Dt (λf=>j<=f) j y (.slice au y.length c4) a9/\Jl (g.map Prod.fst) s p (y.map Prod.fst) d8/\Below j w a9):=by
 obtain⟨i0,b0,b1,b2,b3⟩:=info_parts Tryz.DT;have az:=V bv;have e2:=V du;have f2:g.length<=K:=by
  rcases bv.own.2 with ⟨h,A⟩|⟨_,_,_,h,_,_,fy,_⟩
  ·omega
  injection h with _ _ E;omega
 have gc:g.length<=3000000:=Z;have a1:=V bv.row;obtain⟨P,bu⟩:=Qyy (g.map Prod.fst);have em:U (P.length=g.length):=V (by rw[<-bu,List.length_map]);obtain⟨a3,dc⟩:=Qyy (Io P P.length);have a6:=V bu;have bg:=V dc;rw[bu];clear bv du bu dc;have dg:U (∀l,Calls prog 134 #[.string ⟨#[93]⟩] l λe a9=>e=.returned (.agg #[O,.string ⟨#[93]⟩,O,O,O,(),(),O,Sx,.int .u8 0,O,O,false,false,false,false])/\Below l.heap.size l a9):=V (λl=>Wy ⟨#[93]⟩ l);have dx:U (∀v∈([O,.string ⟨#[93]⟩,O,O,O,(),(),O,Sx,.int .u8 0,O,O,false,false,false,false]:List Value),v.oneCell'=true):=V (by
  intro v aj;simp only[List.mem_cons,List.not_mem_nil,or_false]at aj;rcases aj with rfl|rfl|rfl|rfl|rfl|rfl|rfl|rfl|rfl|rfl|rfl|rfl|rfl|rfl|rfl|rfl<;>rfl)
 have dv:U (∀(k:Sw) ag v,([O,.string ⟨#[93]⟩,O,O,O,(),(),O,Sx,.int .u8 0,O,O,false,false,false,false]:List Value)[ag]?=some v->(k.alloc (.cells #[O,.string ⟨#[93]⟩,O,O,O,(),(),O,Sx,.int .u8 0,O,O,false,false,false,false] 196)).cell? ((⟨k.heap.size,0,none⟩:Addr).add ag)=some v):=V (λk ag v C=>World.news_of_block (Ak _ _) ag v (by exact C));have gu:IntKind.i64.wrap ((p:Int)+1)=(p:Int)+1:=by rw[Sqe];omega
 have fj:IntKind.i64.wrap ((g.length:Int)-1)=(g.length:Int)-1:=by rw[Sqe];omega
 go_enter func139,ntmps139;go_upto_region 2 with fail
 go_loop [8] (λkv=>∃ah:Nat,ah<=g.length/\kv=.int .i64 ((ah:Int)-1)/\U (a3=Io P ah)) (λkv=>(intOf kv+1).toNat)
 case atStart=>exact⟨g.length,Qc _,rfl,V (by rw[<-bg.q,em.q])⟩
 case round=>
 obtain⟨ah,gl,rfl,bz⟩:=hrel;clear fj;by_cases cm:∃m,g[ah-1]?=some m/\0<ah/\m.1.what≠3
 ·obtain⟨m,aa,b6,a7⟩:=cm;obtain⟨d,rfl⟩:∃d,ah=d+1:=⟨ah-1,Z⟩;rw[SF]at aa;obtain⟨b,c2,rfl,dl⟩:=a1.q.cell d m aa;have cb:w.cell? (b (c2+d*16))=some (.int .i64 m.1.what):=a1.q.at_ d m aa 0 _ rfl;have ge:((m.1.what:Int) != 3)=true:=by rw[bne_iff_ne];exact a7
  have et:U (a3=Io P d):=V (by
   rw[bz.q];simp only[Io];have h:P[d]?=some m.1:=by rw[<-a6.q,SA,aa];rfl
   rw[h];simp only;rw[if_neg a7])
  have ej:(0:Int)<=(d:Int):=Z;have ek:(d:Int)<(g.length:Int):=Z;have gs:IntKind.i64.wrap ((d:Int)-1)=(d:Int)-1:=by rw[Sqe];omega
  rw[show ((d+1:Nat):Int)-1=(d:Int) by omega];clear aa bz a7 b6;go_wp2;exact⟨⟨d,Z,by first|rfl|go_num,et⟩,by simp[intOf]⟩
 have bt:U (a3=if ah=0 then none else some (ah-1)):=V (by
  rw[bz.q];cases ah with
  |zero=>rfl
  |succ d=>
   simp only[Io];have co:d<g.length:=Z;have ay:g[d]?=some g[d]:=Qg co;have h:P[d]?=some g[d].1:=by rw[<-a6.q,SA,ay];rfl
   rw[h];simp only;have E:g[d].1.what=3:=by
    cases Decidable.em (g[d].1.what=3) with
    |inl r=>exact r
    |inr r=>exact absurd ⟨g[d],by rw[SF];exact ay,Z,r⟩ cm
   rw[if_pos E,if_neg Z,SF])
 clear cm bz;by_cases b6:ah=0
 ·subst b6;have e6:U (a3=none):=V (by rw[bt.q];rfl);clear bt;have ci:U (∀(k:Sw) G q o D,Below w w k->D.ownsRow j 196 16 (.slice (some ⟨q,0,none⟩) (g.length+1) o) (g.length+1) (Ba g++[.int .i64 0,.string ⟨#[93]⟩,.int .i64 0,.int .i64 0,.int .i64 0,.string ⟨#[]⟩,.string ⟨#[]⟩,.int .i64 0,.slice none 0 0,.int .u8 0,.int .i64 0,.int .i64 0,.bool false,.bool false,.bool false,.bool false])->(k.alloc G).grownBy D (Value.slice a g.length K).ownBlock->((Value.slice a g.length K).ownBlock=some q\/q=k.heap.size+1)->∃y:List (Af×Value),y.length=g.length+1/\Dt (λf=>j<=f) j y (.slice (some ⟨q,0,none⟩) y.length o) D/\Jl P s p (y.map Prod.fst) (p+1)/\Below j w D):=V (λk G q o D an h A E=>by
   have:=az.q.one (np:=Cn [93]) (kv:=.slice none 0 0) an cg .nil h A E;exact⟨_,Y,this.1,.inl ⟨by rw[bg.q];exact e6.q,by rw[Qv,a6.q];rfl,rfl⟩,this.2⟩)
  have ct:U (∀(k:Sw) G,Below w w k->(k.alloc G).ownsRow j 196 16 (.slice a g.length K) g.length (Ba g)):=V (λk G an=>(az.q.after (an.alloc an.size G)).own);go_wp2_with fail
  refine(dg.q _).mono ?_;rintro e k⟨rfl,af⟩;have bm:=V af;have fi:j<=k.heap.size:=Qj cg af.size;clear af;go_wp2_with (at_builtin;refine wpList_append_lies _ I _ _ 194 I j 196 i0 (.agg #[O,(),O,O,O,(),(),O,Sx,.int .u8 0,O,O,false,false,false,false]) 16 144 underlying194 b0 b1 b2 b3 I Z (.slice a g.length K) g.length (Ba g) I (ct.q k _ bm.q) ⟨k.heap.size,0,none⟩ 1 1 [.int .i64 0,.string ⟨#[93]⟩,.int .i64 0,.int .i64 0,.int .i64 0,.string ⟨#[]⟩,.string ⟨#[]⟩,.int .i64 0,.slice none 0 0,.int .u8 0,.int .i64 0,.int .i64 0,.bool false,.bool false,.bool false,.bool false] I I (dv.q k) dx.q Z (by unfold maxLen;omega) Z (by simp;omega) (k.heap.size+1) Y ?_)
  intro q o D a0 bq bl cr;have L:=V (ci.q k _ q o D bm.q a0 bq bl);clear a0 bq bl cr;go_wp2;refine Sqk (v:=.tuple #[.slice (some ⟨q,0,none⟩) (g.length+1) o,((p:Int)+1:Int)]) (by simp[results,results139,go_sem]) rfl ?_;obtain⟨y,ay,h,A,E⟩:=L.q;exact⟨y,some ⟨q,0,none⟩,o,p+1,by rw[ay];rfl,V ⟨h,A,E⟩⟩
 obtain⟨d,rfl⟩:∃d,ah=d+1:=⟨ah-1,Z⟩;have cy:U (a3=some d):=V (by rw[bt.q,if_neg Z,SF]);have co:d<g.length:=Z;obtain⟨m,aa⟩:∃m,g[d]?=some m:=⟨g[d],Qg co⟩;have ch:P[d]?=some m.1:=by rw[<-a6.q,SA,aa];rfl
 have a7:m.1.what=3:=by
  obtain⟨_,fq,h,A⟩:=NH _ _ _ (bg.q.trans cy.q);rw[ch]at h;rw[Qy h];exact A
 obtain⟨b,c2,rfl,dl⟩:=a1.q.cell d m aa;have e7:c2=0:=by
  rcases az.q.own.2 with ⟨h,_⟩|⟨T,_,_,h,_⟩
  ·cases h
  injection h with h
  injection h with h
  injection h
 subst e7;have eg:j<=b:=(az.q.own.lt b rfl).1;have cb:w.cell? (b (d*16))=some (.int .i64 3):=by rw[<-a7];have:=a1.q.at_ d m aa 0 _ rfl;rwa [Nat.zero_add]at this
 have cc:w.cell? (b (d*16+14))=some (.bool m.1.im):=by have:=a1.q.at_ d m aa 14 _ rfl;rwa [Nat.zero_add]at this
 have cd:w.cell? (b (d*16+15))=some (.bool m.1.dead):=by have:=a1.q.at_ d m aa 15 _ rfl;rwa [Nat.zero_add]at this
 obtain⟨ao,cz⟩:=Qyy (tgt s (p+1));have en:U (Calls prog 189 #[s,((p:Int)+1:Int)] w λe a9=>e=.returned ao/\w=a9):=V (by
  have:=zge s (p+1) w fe Z;rw[cz]at this;exact this)
 obtain⟨d9,cv⟩:∃f,m.1.dead=f:=⟨_,rfl⟩;obtain⟨ac,cw⟩:∃f,m.1.im=f:=⟨_,rfl⟩;rw[cv]at cd;rw[cw]at cc;have ej:(0:Int)<=(d:Int):=Z;have ek:(d:Int)<(g.length:Int):=Z;have fz:¬(d:Int)<0:=Z;rw[show ((d+1:Nat):Int)-1=(d:Int) by omega];have bc:=V cz;have fb:=V aa;have dd:=V ch;have d1:=V cv;have fc:=V cw;have gq:=V a7;clear bt b6 aa ch a7 cz cv cw;go_wp2_with fail
 apply en.m;rintro e a9⟨rfl,rfl⟩;obtain⟨a4,dn⟩:∃a4:Bool,(d9||decide (ao=0))=a4:=⟨_,rfl⟩;have bp:=V dn;clear dn;go_upto_region 7 with fail
 go_cut [49] (λfu l=>fu=.bool a4/\w=l)
 case first=>
  cases d9
  ·by_cases h:ao=0
   ·have Q:U (a4=true):=V (by rw[<-bp.q,Sl h];rfl);have a5:((ao:Int) == 0)=true:=(by rw[Sqb];omega);go_wp2;go_meet;exact⟨by rw[Q.q],rfl⟩
   have Q:U (a4=false):=V (by rw[<-bp.q,Si h];rfl);have a5:((ao:Int) == 0)=false:=by rw[Qe];omega
   have c6:¬(ao:Int)=0:=Z;go_wp2;go_meet;exact⟨by rw[Q.q],rfl⟩
  have Q:U (a4=true):=V (by rw[<-bp.q];rfl);go_wp2;go_meet;exact⟨by rw[Q.q],rfl⟩
 case rest=>
 obtain⟨rfl,rfl⟩:=hcut;cases a4
 case true=>
  have cl:U (m.1.dead=true\/tgt s (p+1)=0):=V (by
   have:=bp.q;rw[Bool.or_eq_true,Sd]at this;rw[d1.q,bc.q];exact this)
  obtain⟨bh,eb,c7,c8⟩:=az.q.set d 0 m ({ m.1 with what:=0 },m.2) (.int .i64 0) fb.q Z rfl rfl rfl
  obtain⟨ap,bk⟩:=Qzz (w.setCell (b (d*16)) (.int .i64 0));have bw:Dt (λf=>j<=f) j (g.set d ({ m.1 with what:=0 },m.2)) (.slice (some b) g.length K) ap:=by rw[bk];exact bh
  have c9:Below j w ap:=by rw[bk];exact c8 j eg w Sr
  have ec:w.frozen? (b (d*16))=false:=c7;have fg:ap.heap.size=w.heap.size:=by rw[bk];simp[World.setCell]
  have db:j<=ap:=Z;obtain⟨a8,b5⟩:=Qyy (g.set d ({ m.1 with what:=0 },m.2))
  rw[b5]at bw;have cu:a8.length=g.length:=by rw[<-b5,List.length_set]
  have ci:U (∀(k:Sw) G q o D,Below ap ap k->D.ownsRow j 196 16 (.slice (some ⟨q,0,none⟩) (g.length+1) o) (g.length+1) (Ba a8++[.int .i64 0,.string ⟨#[93]⟩,.int .i64 0,.int .i64 0,.int .i64 0,.string ⟨#[]⟩,.string ⟨#[]⟩,.int .i64 0,.slice none 0 0,.int .u8 0,.int .i64 0,.int .i64 0,.bool false,.bool false,.bool false,.bool false])->(k.alloc G).grownBy D (Value.slice (some b) g.length K).ownBlock->((Value.slice (some b) g.length K).ownBlock=some q\/q=k.heap.size+1)->∃y:List (Af×Value),y.length=g.length+1/\Dt (λf=>j<=f) j y (.slice (some ⟨q,0,none⟩) y.length o) D/\Jl P s p (y.map Prod.fst) (p+1)/\Below j w D):=V (λk G q o D an h A E=>by
   have df:=bw;rw[<-cu]at df h A E;have:=df.one (np:=Cn [93]) (kv:=.slice none 0 0) an db .nil h A E;refine⟨_,by simp[cu],this.1,.inr (.inl ⟨d,m.1,by rw[bg.q];exact cy.q,dd.q,cl.q,?_,rfl⟩),c9.trans (this.2)⟩;rw[Qv,<-b5,List.map_set,a6.q];rfl)
  have ct:U (∀(k:Sw) G,Below ap ap k->(k.alloc G).ownsRow j 196 16 (.slice (some b) g.length K) g.length (Ba a8)):=V (λk G an=>by
   have:=(bw.after (an.alloc an.size G)).own;rw[cu]at this;exact this)
  have eo:=V bk;clear bh eb c7 c8 bk bw c9 fg b5 cc cd;go_upto_region 9 with fail
  rw[<-eo.q];clear cb ec;go_wp2_with fail
  refine(dg.q _).mono ?_;rintro e k⟨rfl,af⟩;have bm:=V af;have fi:j<=k.heap.size:=Qj db af.size;clear af;go_wp2_with (at_builtin;refine wpList_append_lies _ I _ _ 194 I j 196 i0 (.agg #[O,(),O,O,O,(),(),O,Sx,.int .u8 0,O,O,false,false,false,false]) 16 144 underlying194 b0 b1 b2 b3 I Z (.slice (some b) g.length K) g.length (Ba a8) I (ct.q k _ bm.q) ⟨k.heap.size,0,none⟩ 1 1 [.int .i64 0,.string ⟨#[93]⟩,.int .i64 0,.int .i64 0,.int .i64 0,.string ⟨#[]⟩,.string ⟨#[]⟩,.int .i64 0,.slice none 0 0,.int .u8 0,.int .i64 0,.int .i64 0,.bool false,.bool false,.bool false,.bool false] I I (dv.q k) dx.q Z (by unfold maxLen;omega) Z (by simp;omega) (k.heap.size+1) Y ?_)
  intro q o D a0 bq bl cr;have L:=V (ci.q k _ q o D bm.q a0 bq bl);clear a0 bq bl cr;go_wp2;refine Sqk (v:=.tuple #[.slice (some ⟨q,0,none⟩) (g.length+1) o,((p:Int)+1:Int)]) (by simp[results,results139,go_sem]) rfl ?_;obtain⟨y,ay,h,A,E⟩:=L.q;exact⟨y,some ⟨q,0,none⟩,o,p+1,by rw[ay];rfl,V ⟨h,A,E⟩⟩
 have cq:U (m.1.dead=false/\0<ao):=V (by
  have:=bp.q;rw[Bool.or_eq_false_iff,decide_eq_false_iff_not]at this;exact⟨by rw[d1.q];exact this.1,Z⟩)
 have fh:=WW s (p+1) (by rw[bc.q];exact cq.q.2);rw[bc.q,S.lda]at fh;obtain⟨ab,ds⟩:∃ab:Int,(if ac=true then 13 else 12)=ab:=⟨_,rfl⟩
 have cn:=V ds;clear ds cb cd;go_upto_if 64 with fail
 go_cut [10] (λfr l=>fr=.int .i64 ab/\w=l)
 case first=>
  cases ac
  ·have Q:U (ab=12):=V (by rw[<-cn.q];rfl);go_wp2;go_meet;exact⟨by rw[Q.q],rfl⟩
  have Q:U (ab=13):=V (by rw[<-cn.q];rfl);go_wp2;go_meet;exact⟨by rw[Q.q],rfl⟩
 case rest=>
 obtain⟨rfl,rfl⟩:=hcut;go_upto_region 13 with fail
 obtain⟨N,d6⟩:∃N,ao=N+1:=⟨ao-1,Z⟩;obtain⟨am,ez⟩:=Qyy (s.extract (p+2) N);have e0:U (am.data.toList=(s.data.toList.take (tgt s (p+1)-1)).drop (p+2)):=V (by
  rw[<-ez,Kr,bc.q,d6,SF,List.drop_take])
 have gx:IntKind.i64.wrap (((N+1:Nat):Int)-1)=(N:Int):=by rw[Sqe];omega
 have gv:IntKind.i64.wrap ((p:Int)+2)=(p:Int)+2:=by rw[Sqe];omega
 have gy:IntKind.i64.wrap (N:Int)=(N:Int):=by rw[Sqe];omega
 have gz:(N:Int)+1-1=(N:Int):=Z;have g0:IntKind.i64.wrap ((N:Int)+1-1)=(N:Int):=by rw[Sqe];omega
 have gi:(p:Int)+2<=(N:Int):=Z;have gh:p+2<=N:=Z;have gm:N<=s.size:=Z;have gn:(N:Int)<=(s.size:Int):=Z;have gg:(0:Int)<=(p:Int)+2:=Z;have go:((p:Int)+2).toNat=p+2:=Z;have gb:(d:Int)+1<=(g.length:Int):=Z;have f9:(d:Int)+1<=(K:Int):=Z;have f8:(0:Int)<=(d:Int)+1:=Z;have gt:IntKind.i64.wrap ((d:Int)+1)=(d:Int)+1:=by rw[Sqe];omega
 have bi:U (∀av R,(av=some ⟨b,(d+1)*16,none⟩\/g.length=d+1)->g.length-(d+1)<=R->∀l,After w l->Calls prog 140 #[.slice av (g.length-(d+1)) R] l λe H=>∃t x u z,e=.returned (.slice t x u)/\w.heap.size<=H.heap.size/\l.heap.size<=H.heap.size/\U (Bv H (λf=>(j<=f/\f<w)\/(l.heap.size<=f/\f<H)) (.slice t x u) z/\Ii (P.drop (d+1)) 0 z/\Below l.heap.size l H)):=V (λav R ep er l ak=>by
  have g1:=ak.size;have cp:(g.drop (d+1)).length=g.length-(d+1):=Qf;have gp:Ct (g.drop (d+1))<=Ct g:=by
   have A:Ct g=Ct (g.take (d+1))+Ct (g.drop (d+1)):=by rw[<-Rt,Sy]
   omega
  have fd:Je l av (g.drop (d+1)):=by
   rcases ep with rfl|r
   ·refine .inr ⟨b,(d+1)*16,rfl,Z,λM f C c3 bd c0=>?_⟩;rw[Qn]at C;have ed:=(a1.q.below ak).at_ (d+1+M) f C c3 bd c0;rw[show (d+1)*16+M*16+c3=0+(d+1+M)*16+c3 by omega];exact ed
   exact .inl (Qw Z)
  have:=XG (λf=>(j<=f/\f<w)\/l.heap.size<=f) av R (g.drop (d+1)) l (by rw[cp];exact er) fd (λM f C=>by
   rw[Qn]at C;exact(az.q.Ab _ f C).move (λai al=>⟨.inl ⟨al.1,al.2.1⟩,Z⟩) (λai al=>ak.block ai al.2.1)) (by rw[cp];omega) (λM f C=>by rw[Qn]at C;exact e2.q _ f C) (λf ak=>.inr ak)
  rw[cp]at this;refine this.mono ?_;rintro e H⟨v,z,rfl,d3,fa,an⟩;obtain⟨t,x,u,rfl⟩:=d3.form;have dk:=an.size;refine⟨t,x,u,z,rfl,Z,dk,V ⟨d3.move (λai al=>by
   rcases al.1 with r|r
   ·exact .inl r
   exact .inr ⟨r,al.2⟩) (λ_ _=>rfl),?_,an⟩⟩
  have:=fa.q;rw[List.map_drop,a6.q]at this;exact this)
 subst d6;go_cut [11] (λfs l=>∃(a2:Nat) (t:So) (x u:Nat) (z:List Rn),fs=.pointer (some a2)/\U (IG j w a2 ab am t x u z l/\Ii (P.drop (d+1)) 0 z))
 case first=>
  by_cases dm:K=d+1
  ·have d2:g.length=d+1:=Z;have cj:U (∀av R l,After w l->Calls prog 140 #[.slice av 0 R] l λe H=>∃t x u z,e=.returned (.slice t x u)/\w.heap.size<=H.heap.size/\l.heap.size<=H.heap.size/\U (Bv H (λf=>(j<=f/\f<w)\/(l.heap.size<=f/\f<H)) (.slice t x u) z/\Ii (P.drop (d+1)) 0 z/\Below l.heap.size l H)):=V (λav R l ak=>by
    have:=bi.q av R (.inr d2) Z l ak;rw[show g.length-(d+1)=0 by omega]at this;exact this)
   have gj:g.length-(d+1)=0:=Z;have f4:K-(d+1)=0:=Z;have f3:(K=d+1)=True:=eq_true dm;clear bi d2 dm;go_region_held3 (λ_=>True)
    (trivial)
    ((go_at_call 140;refine(cj.q _ _ _ (by repeat (first|exact Sr|refine Below.drew ?_|refine Below.alloc ?_ Y _))).mono ?_;rintro e H⟨t,x,u,z,rfl,fm,fn,W⟩;obtain⟨es,eu⟩:=Na W.q.2.2))
   all_goals (go_wp2_with fail;go_meet)
   ·exact⟨_,t,x,u,z,rfl,V ⟨XJ (by repeat (first|exact Sr|refine Below.drew ?_|refine Below.alloc ?_ Y _)) W.q.1 W.q.2.2,W.q.2.1⟩⟩
   exact⟨_,t,x,u,z,rfl,V ⟨OY (by repeat (first|exact Sr|refine Below.drew ?_|refine Below.alloc ?_ Y _)) Y (by exact Ak _ _) W.q.1 W.q.2.2,W.q.2.1⟩⟩
  have cj:U (∀l,After w l->Calls prog 140 #[.slice (some (b ((d+1)*16))) (g.length-(d+1)) (K-(d+1))] l λe H=>∃t x u z,e=.returned (.slice t x u)/\w.heap.size<=H.heap.size/\l.heap.size<=H.heap.size/\U (Bv H (λf=>(j<=f/\f<w)\/(l.heap.size<=f/\f<H)) (.slice t x u) z/\Ii (P.drop (d+1)) 0 z/\Below l.heap.size l H)):=V (bi.q _ _ (.inl rfl) Z);clear bi;go_region_held3 (λ_=>True)
   (trivial)
   ((go_at_call 140;refine(cj.q _ (by repeat (first|exact Sr|refine Below.drew ?_|refine Below.alloc ?_ Y _))).mono ?_;rintro e H⟨t,x,u,z,rfl,fm,fn,W⟩;obtain⟨es,eu⟩:=Na W.q.2.2))
  all_goals (go_wp2_with fail;go_meet)
  ·exact⟨_,t,x,u,z,rfl,V ⟨XJ (by repeat (first|exact Sr|refine Below.drew ?_|refine Below.alloc ?_ Y _)) W.q.1 W.q.2.2,W.q.2.1⟩⟩
  exact⟨_,t,x,u,z,rfl,V ⟨OY (by repeat (first|exact Sr|refine Below.drew ?_|refine Below.alloc ?_ Y _)) Y (by exact Ak _ _) W.q.1 W.q.2.2,W.q.2.1⟩⟩
 case rest=>
 obtain⟨a2,t,x,u,z,rfl,b4⟩:=hcut;have bo:Below w w wc:=b4.q.1.below;have gr:w<=wc.heap.size:=bo.size;have e3:=b4.q.1.lt;have eh:j<=wc:=Z;obtain⟨F,ce⟩:=Qyy (g.take d);have ba:F.length=d:=by rw[<-ce,Ql];omega
 have ee:=V ce;have ef:(Ba F).length=d*16:=by rw[Pz,ba]
 have cf:U (∀M f,F[M]?=some f->g[M]?=some f):=V (λM f C=>by
  rw[<-ce,List.getElem?_take]at C;split at C
  ·exact C
  cases C)
 have dw:U (∀ag bd,(Ba F)[ag]?=some bd->wc.cell? ((b:Addr).add ag)=some bd):=V (Je.news (λM f C ag bd c0=>(a1.q.below bo).at_ M f (cf.q M f C) ag bd c0));have dy:U (∀v∈Ba F,v.oneCell'=true):=V (λv aj=>by
  unfold Ba at aj;rw[List.mem_flatten]at aj;obtain⟨g2,dt,aj⟩:=aj;rw[List.mem_map]at dt;obtain⟨f,ak,rfl⟩:=dt;obtain⟨M,C⟩:=List.getElem?_of_mem ak;obtain⟨g9,hb,ha,fl⟩:=(az.q.Ab M f (cf.q M f C)).form;rw[fl]at aj;simp only[Dg,List.mem_cons,List.not_mem_nil,or_false]at aj;rcases aj with rfl|rfl|rfl|rfl|rfl|rfl|rfl|rfl|rfl|rfl|rfl|rfl|rfl|rfl|rfl|rfl<;>rfl)
 have de:U (∀bf k,k.ownsRow j 196 16 bf d (Ba F)->wc.grownBy k (Value.slice none 0 0).ownBlock->(bf.ownBlock=(Value.slice none 0 0).ownBlock\/bf.ownBlock=some wc.heap.size)->∃au o,bf=.slice au d o/\Dt (λf=>j<=f) j F (.slice au d o) k/\Below wc wc k):=V (λbf k h A E=>by
  have af:Below wc wc k:=Sqi Sr A (Qc _) (λm aa=>by simp[Value.ownBlock]at aa);have ev:∃au o,bf=.slice au d o:=by
   rcases h.2 with ⟨a5,c6⟩|⟨T,c,_,a5,_⟩
   ·exact⟨none,0,by rw[a5,c6]⟩
   exact⟨_,_,a5⟩
  obtain⟨au,o,rfl⟩:=ev;refine⟨au,o,rfl,⟨by rw[ba];exact h,λM f C=>?_⟩,af⟩;have dk:=af.size;refine(az.q.Ab M f (cf.q M f C)).move (λai al=>⟨al.1,Z,?_⟩) (λai al=>by rw[af.block ai Z,bo.block ai al.2.1]);intro e;rcases E with r|r
  ·rw[r]at e;simp[Value.ownBlock]at e
  rw[r]at e;injection e with e;omega)
 have ga:(d:Int)<=(K:Int):=Z;have cs:=b4;have dj:=V bo;clear b4 bo bi;go_wp2_with (at_builtin;refine wpList_append_own_at _ I _ _ 194 I j 196 i0 (.agg #[O,(),O,O,O,(),(),O,Sx,.int .u8 0,O,O,false,false,false,false]) 16 144 underlying194 b0 b1 b2 b3 I Z (.slice none 0 0) 0 [] I (Sqg _ _ _ _) b d K (Ba F) I ef dw.q dy.q (by unfold maxLen;omega) Z Z ?_)
 intro fv k a0 dq e5 ck;obtain⟨ae,o,rfl,bh,af⟩:=de.q fv k (by simpa using a0) dq ck;have d5:U (Dt (λf=>j<=f) j (dz ac 0 F) (.slice ae d o) k/\Below wc wc k):=V ⟨by rw[YU];exact bh,af⟩;have dh:U (ae.map (λf=>f.block)=none\/ae.map (λf=>f.block)=some wc.heap.size):=V (by
  rcases ck with r|r
  ·left;cases ae with
   |none=>rfl
   |some f=>simp[Value.ownBlock]at r
  right;cases ae with
  |none=>simp[Value.ownBlock]at r
  |some f=>simpa [Value.ownBlock]using r)
 clear a0 dq e5 ck bh af de dw dy;go_upto_region 17 with fail
 go_loopw [13] (λc1 l=>∃i:Nat,i<=d/\c1=.int .i64 (i:Nat)/\U (Dt (λf=>j<=f) j (dz ac i F) (.slice ae d o) l/\Below wc wc l)) (λc1 _=>d-(intOf c1).toNat)
 case atStart=>exact⟨0,Qt _,rfl,d5⟩
 case round=>
 obtain⟨i,f6,rfl,L⟩:=hrel;clear d5;by_cases f7:i<d
 ·have el:(i:Int)<(d:Int):=Z;obtain⟨f,ak⟩:∃f,F[i]?=some f:=⟨F[i],Qg Z⟩;have b7:=UK ac i F f ak;obtain⟨T,ew⟩:∃T,ae=some ⟨T,0,none⟩:=by
   rcases L.q.1.own.2 with ⟨_,A⟩|⟨T,_,_,h,_⟩
   ·rw[OA,ba]at A;omega
   injection h with h;exact⟨T,h⟩
  subst ew;have cx:=L.q.1.row;have fo:wr.cell? ⟨T,i*16,none⟩=some (.int .i64 f.1.what):=by have:=cx.at_ i f b7 0 _ rfl;rwa [Nat.zero_add]at this
  have fp:wr.cell? ⟨T,i*16+14,none⟩=some (.bool f.1.im):=by have:=cx.at_ i f b7 14 _ rfl;rwa [Nat.zero_add]at this
  have g3:wr.cell? (b (d*16+14))=some (.bool ac):=(L.q.2.cell (p:=⟨b,d*16+14,none⟩) (by show b<wc.heap.size;omega)).trans ((dj.q.cell (p:=⟨b,d*16+14,none⟩) dl).trans cc);have f1:b<wr:=by have:=L.q.2.size;omega
  have f5:T<wr:=(L.q.1.own.lt T rfl).2;have dp:T=wc.heap.size:=by
   rcases dh.q with r|r
   ·simp at r
   simpa using r
  obtain⟨ca,b9⟩:∃ai,f.1.what=ai:=⟨_,rfl⟩;obtain⟨ea,b8⟩:∃ai,f.1.im=ai:=⟨_,rfl⟩;rw[b9]at fo;rw[b8]at fp;obtain⟨aq,ax⟩:∃aq:Bool,(decide (ca=3)&&!ac&&!ea)=aq:=⟨_,rfl⟩;have cl:U (aq=true->Dq ac f.1 = { f.1 with dead:=true }):=V (λr=>by
   rw[r]at ax;simp only[Bool.and_eq_true,decide_eq_true_iff,Bool.not_eq_true']at ax;unfold Dq;rw[if_pos ⟨by rw[b9];exact ax.1.1,ax.1.2,by rw[b8];exact ax.2⟩])
  have eq:U (aq=false->Dq ac f.1=f.1):=V (λr=>by
   unfold Dq;rw[if_neg];rintro⟨h,A,E⟩;rw[b9]at h;rw[b8]at E;rw[r]at ax;simp[h,A,E]at ax)
  have bx:=V ax;have d7:=V ak;have fk:=V b7;have ex:=V dp;clear ak b7 cx b9 b8 ax dp;go_upto_region 19 with fail
  go_cut [111] (λft l=>ft=.bool aq/\wr=l)
  case first=>
   by_cases h:ca=3
   ·have a5:((ca:Int) == 3)=true:=(by rw[Sqb];exact h);cases ac
    ·cases ea
     ·have Q:U (aq=true):=V (by rw[<-bx.q];simp[h]);clear h;go_wp2;go_meet;exact⟨by rw[Q.q],rfl⟩
     have Q:U (aq=false):=V (by rw[<-bx.q];simp);clear h;go_wp2;go_meet;exact⟨by rw[Q.q],rfl⟩
    have Q:U (aq=false):=V (by rw[<-bx.q];simp);clear h;go_wp2;go_meet;exact⟨by rw[Q.q],rfl⟩
   have a5:((ca:Int) == 3)=false:=by rw[Qe];exact h
   have Q:U (aq=false):=V (by rw[<-bx.q];simp[h]);clear h;go_wp2;go_meet;exact⟨by rw[Q.q],rfl⟩
  case rest=>
  obtain⟨rfl,rfl⟩:=hcut;cases aq
  ·have bj:U (Dt (λf=>j<=f) j (dz ac (i+1) F) (.slice (some ⟨T,0,none⟩) d o) wr/\Below wc wc wr):=V ⟨by rw[zda ac i F f d7.q (eq.q rfl)];exact L.q.1,L.q.2⟩;clear L;go_wp2;go_roundw
   case rel=>exact⟨i+1,Z,by go_num,bj⟩
   case measure=>exact Sj
  obtain⟨bb,c5,fx,da⟩:=L.q.1.set i 15 f ({ f.1 with dead:=true },f.2) (.bool true) fk.q Z rfl rfl rfl
  have bj:U (Dt (λf=>j<=f) j (dz ac (i+1) F) (.slice (some ⟨T,0,none⟩) d o) (wr.setCell ⟨T,i*16+15,none⟩ (.bool true))/\Below wc wc (wr.setCell ⟨T,i*16+15,none⟩ (.bool true))):=V ⟨by rw[TW ac i F f d7.q,cl.q rfl];exact bb,da _ (by rw[ex.q];exact Qc _) _ L.q.2⟩;have fw:wr.cell? ⟨T,i*16+15,none⟩=some (.bool f.1.dead):=c5;clear L bb c5 da;go_wp2;go_roundw
  case rel=>exact⟨i+1,Z,by go_num,bj⟩
  case measure=>exact Sj
 have ey:i=d:=Z;have el:¬(i:Int)<(d:Int):=Z;obtain⟨ar,br⟩:=Qyy (F.map (λf=>(Dq ac f.1,f.2)));have bs:ar.length=d:=by rw[<-br,List.length_map,ba]
 have bb:Dt (λf=>j<=f) j ar (.slice ae ar.length o) wr:=by
  have:=L.q.1;rw[ey,<-ba,zhw,br]at this;rw[bs,<-ba];exact this
 have bn:=L.q.2;have gw:wc<=wr.heap.size:=bn.size;have aw:=(bn.block a2 e3).trans cs.q.1.blk;have g4:=X aw 0 _ rfl;have fq:wr.cell? (a2 1)=some (.int .i64 ab):=X aw 1 _ rfl;have a8:=X aw 2 _ rfl;have g5:wr.cell? (a2 3)=some (.string am):=X aw 3 _ rfl;have g6:=X aw 4 _ rfl;have g7:=X aw 5 _ rfl;have g8:wr.cell? (a2 6)=some (.slice t x u):=X aw 6 _ rfl;have gd:a2<wr:=Z;have d4:Bv wr (λf=>j<=f/\f<wr.heap.size/\some f≠(Value.slice ae ar.length o).ownBlock) (.slice t x u) z:=by
  refine cs.q.1.rep.move (λai al=>⟨Z,Z,?_⟩) (λai al=>bn.block ai Z);intro e;cases ae with
  |none=>simp[Value.ownBlock]at e
  |some ad=>
   rcases dh.q with r|r
   ·simp at r
   simp[Value.ownBlock]at e r;omega
 have e9:U (∀G,(wr.alloc G).ownsRow j 196 16 (.slice ae d o) d (Ba ar)):=V (λG=>by
  have:=(bb.after ((Below.refl wr wr).alloc (Qc _) G)).own;rw[bs]at this;exact this)
 have e4:U (∀ag v,([(1:Int),(),O,ab,O,am,(),O,.slice t x u,.int .u8 0,O,O,false,false,false,false]:List Value)[ag]?=some v->(wr.alloc (.cells #[(1:Int),(),O,ab,O,am,(),O,.slice t x u,.int .u8 0,O,O,false,false,false,false] 196)).cell? ((wr:Addr).add ag)=some v):=V (λag v C=>World.news_of_block (Ak _ _) ag v (by exact C));have e8:U (∀v∈([(1:Int),(),O,ab,O,am,(),O,.slice t x u,.int .u8 0,O,O,false,false,false,false]:List Value),v.oneCell'=true):=V (by
  intro v aj;simp only[List.mem_cons,List.not_mem_nil,or_false]at aj;rcases aj with rfl|rfl|rfl|rfl|rfl|rfl|rfl|rfl|rfl|rfl|rfl|rfl|rfl|rfl|rfl|rfl<;>rfl)
 have ei:U (∀G q R D,D.ownsRow j 196 16 (.slice (some ⟨q,0,none⟩) (d+1) R) (d+1) (Ba ar++[.int .i64 1,.string ⟨#[]⟩,.int .i64 0,.int .i64 ab,.int .i64 0,.string am,.string ⟨#[]⟩,.int .i64 0,.slice t x u,.int .u8 0,.int .i64 0,.int .i64 0,.bool false,.bool false,.bool false,.bool false])->(wr.alloc G).grownBy D (Value.slice ae d o).ownBlock->((Value.slice ae d o).ownBlock=some q\/q=(wr:Nat)+1)->∃y:List (Af×Value),y.length=d+1/\Dt (λf=>j<=f) j y (.slice (some ⟨q,0,none⟩) y.length R) D/\Jl P s p (y.map Prod.fst) (N+1)/\Below j w D):=V (λG q R D h A E=>by
  have e:Dg (C8 (.nd ab 0 am.data.toList [] 0 z)) (.slice t x u)=[.int .i64 1,.string ⟨#[]⟩,.int .i64 0,.int .i64 ab,.int .i64 0,.string am,.string ⟨#[]⟩,.int .i64 0,.slice t x u,.int .u8 0,.int .i64 0,.int .i64 0,.bool false,.bool false,.bool false,.bool false]:=by
   unfold Dg C8;simp only[Rn.info,S.El];rfl
  rw[<-e]at h;rw[<-bs]at h A E;have:=bb.one (np:=C8 (.nd ab 0 am.data.toList [] 0 z)) (kv:=.slice t x u) Sr Z d4 h A E;refine⟨_,by simp[bs],this.1,.inr (.inr ⟨d,m.1,z,by rw[bg.q];exact cy.q,dd.q,cq.q.1,by rw[bc.q];exact cq.q.2,cs.q.2,?_,bc.q.symm⟩),(dj.q.mono cg).trans ((bn.mono eh).trans this.2)⟩;rw[Qv,<-br,List.map_map,<-e0.q,fc.q,cn.q,<-a6.q,<-List.map_take,ee.q,List.map_map];rfl)
 have f0:=V aw;clear bb bn aw d4 L br;go_wp2_with (at_builtin;refine wpList_append_lies _ I _ _ 194 I j 196 i0 (.agg #[O,(),O,O,O,(),(),O,Sx,.int .u8 0,O,O,false,false,false,false]) 16 144 underlying194 b0 b1 b2 b3 I Z (.slice ae d o) d (Ba ar) I (e9.q _) wr 1 1 [.int .i64 1,.string ⟨#[]⟩,.int .i64 0,.int .i64 ab,.int .i64 0,.string am,.string ⟨#[]⟩,.int .i64 0,.slice t x u,.int .u8 0,.int .i64 0,.int .i64 0,.bool false,.bool false,.bool false,.bool false] I I e4.q e8.q Z (by unfold maxLen;omega) Z (by simp;omega) ((wr:Nat)+1) Y ?_)
 intro q R D d0 dr di e1;have bj:=V (ei.q _ q R D d0 dr di);clear d0 dr di e1;go_wp2;refine Sqk (v:=.tuple #[.slice (some ⟨q,0,none⟩) (d+1) R,.int .i64 ((N:Int)+1)]) (by simp[results,results139,go_sem]) rfl ?_;obtain⟨y,ay,h,A,E⟩:=bj.q;exact⟨y,some ⟨q,0,none⟩,R,N+1,by rw[ay];rfl,V ⟨h,A,E⟩⟩
def Dz (t:List UInt8)(i:Nat):Nat:=S.cnt 32 (t.take i).reverse
theorem FC (t:List UInt8)(i:Nat)(c:UInt8)(a:t[i]?=some c):Dz t (i+1)=if c=32 then Dz t i+1 else 0:=by
 unfold Dz;rw[Sv,a,Option.toList_some,List.reverse_append,List.reverse_singleton,List.singleton_append];simp only[S.cnt]
theorem Mr (t:List UInt8)(i:Nat)(c:UInt8)(a:t[i]?=some c)(d:c≠32):Dz t (i+1)=0:=by rw[FC t i c a,if_neg d]
def Ht (l:List UInt8)(a:Bool):Af:=⟨3,l,O8,0,0,0,false,false,a,false⟩
def Gi (k:Int)(t:List UInt8):Af:=C8 (.nd k 0 [] t 0 [])
def Mk (a:List UInt8):Af:=C8 (.nd 12 0 a [] 0 [.nd 8 0 [] a 0 []])
def Hu (t:List UInt8)(l:List Af)(i:Nat)(d:List Af)(a:Nat):Prop:=∃c,t[i]?=some c /\
 (if c=92/\t[i+1]?=some 10 then d=l++[Gi 10 []]/\a=i+2
 else if c=92/\(t[i+1]?.map S.mark)=some true then d=l++[Cn ((t.drop (i+1)).take 1)]/\a=i+2
 else if c=96 then (if 0<Jd t i then d=l++[Gi 11 (Nj ((t.drop (i+S.cnt 96 (t.drop i))).take (Jd t i-S.cnt 96 (t.drop i)-(i+S.cnt 96 (t.drop i)))))]/\a=Jd t i else d=l++[Cn ((t.drop i).take (S.cnt 96 (t.drop i)))]/\a=i+S.cnt 96 (t.drop i))
 else if c=60/\0<F5 t i then d=l++[Mk ((t.drop (i+1)).take (F5 t i-1-(i+1)))]/\a=F5 t i
 else if c=10 then d=l.take (l.length-Dz t i)++[Gi (if 2<=Dz t i then 10 else 9) []]/\a=i+1
 else if c=42\/c=95 then d=l++[Kh t i]/\a=i+S.same (t.drop i)
 else if c=91 then d=l++[Ht [91] false]/\a=i+1
 else if c=33/\t[i+1]?=some 91 then d=l++[Ht [33,91] true]/\a=i+2
 else if c=93 then Jl l t i d a
 else d=l++[Cn ((t.drop i).take 1)]/\a=i+1)
inductive Dn (t:List UInt8):List Af->Nat->List Rn->Prop
 |done (l:List Af) (i:Nat) (ns:List Rn) (h:t.length<=i) (hp:Ii l 0 ns):Dn t l i ns
 |step (l:List Af) (i:Nat) (l':List Af) (i':Nat) (ns:List Rn) (hs:Hu t l i l' i') (hr:Dn t l' i' ns):Dn t l i ns
structure WL (w:Sw)(t:List UInt8)(qs:List (Af×Value))(i:Nat)(a:So)(cap:Nat)(wr:Sw):Prop where
 own:Dt (λx=>w<=x) w qs (.slice a qs.length cap) wr
 len:qs.length<=i
 tot:Ct qs<=i
 nums:∀(j:Nat) (p:Af×Value),qs[j]?=some p->p.1.n<=1000000
 sp:Dz t i<=qs.length
 toL:∀ns,Dn t (qs.map Prod.fst) i ns->Dn t [] 0 ns
 below:Below w w wr
theorem WL.start (w:Sw)(t:List UInt8):WL w t [] 0 none 0 w:=⟨Dt.nil _ _ _,Qc _,Qc _,λd f a=>by simp at a,by simp[Dz,S.cnt],λ_ a=>a,Sr⟩
theorem WL.push {w wr k w2:Sw}{t:List UInt8}{d:List (Af×Value)}{i j:Nat}{a:So}{m g cap1:Nat}{L:Obj}{np:Af}{kv:Value}(f:WL w t d i a m wr)(E:Hu t (d.map Prod.fst) i (d.map Prod.fst++[np]) j)(N:i+1<=j)(P:np.s.length+np.left<=j-i)(A:np.n<=1000000)(F:Dz t j<=d.length+1)
  (v:Below wr wr k) (D:Bv k (λl=>wr.heap.size<=l/\l<k) kv np.node.Ab) (C:w2.ownsRow w 196 16 (.slice (some g) (d.length+1) cap1) (d.length+1) (Ba d++Dg np kv)) (x:(k.alloc L).grownBy w2 (Value.slice a d.length m).ownBlock) (u:(Value.slice a d.length m).ownBlock=some g\/g=(k:Nat)+1) :
  ∃q,q.length=d.length+1/\WL w t q j (some g) cap1 w2:=by
 have G:=f.below.size;obtain⟨r,s⟩:=f.own.one (np:=np) (kv:=kv) v G (D.move (λl H=>⟨Z,H.2,λe=>by have:=f.own.own.lt l e.symm;omega⟩) (λ_ _=>rfl)) C x u;refine⟨_,Y,r,by have:=f.len;simp;omega,?_,?_,by simpa using F,λK p=>f.toL K (.step _ _ _ _ _ E (by rw[Qv]at p;exact p)),f.below.trans s⟩
 ·rw[Rt,Ry];have:=f.tot;have e:Ct ([]:List (Af×Value))=0:=rfl;rw[e];show Ct d+(np.s.length+np.left+0)<=j;omega
 intro o M h;by_cases z:o<d.length
 ·rw[Qbd z]at h;exact f.nums o M h
 rw[Qu Z]at h;have y:o-d.length=0:=by have:=(Qb.1 h).1;simp at this;omega
 rw[y]at h;simp at h;subst h;exact A
