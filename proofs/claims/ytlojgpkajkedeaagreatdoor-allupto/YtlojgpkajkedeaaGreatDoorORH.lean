import Derived.Test.YtlojgpkajkedeaaGreatDoorOC2
import Derived.Test.YtlojgpkajkedeaaGreatDoorORF
set_option maxHeartbeats 0
set_option maxRecDepth 100000
namespace Go.Proofs.YtlojgpkajkedeaaGreatDoor
open Go.RowKit Go.Proofs.Tryz
abbrev Ln:=ByteArray×Int
def Pf (p:Ln):List Value:=[.string p.1,.int .i64 p.2]
def Ja (l:List Ln):List Value:=(l.map Pf).flatten
theorem Yh (l:List Ln)(a:Ln):Ja (l++[a])=Ja l++Pf a:=by simp[Ja]
theorem zc9 (l:List Ln)(i a:Nat)(j:Ln)(d:l[i]?=some j)(m:a<2):(Ja l)[2*i+a]?=(Pf j)[a]?:=by
 induction l generalizing i with
 |nil=>simp at d
 |cons g h k=>
  have f:(Pf g).length=2:=rfl;cases i with
  |zero=>
   simp at d;subst d;show (Pf g++Ja h)[2*0+a]?=_;rw[Qbd (by rw[f];omega)];simp
  |succ i=>
   have:=k i (by simpa using d);show (Pf g++Ja h)[2*(i+1)+a]?=_;rw[Qu (by rw[f];omega),f,<-this];congr 1;omega
def Cu (l:List Ln):List ByteArray:=l.map Prod.fst
def Ah (l:List Ln):List (List UInt8):=dat (Cu l)
theorem Jh (l:List Ln)(i:Nat)(p:Ln)(a:l[i]?=some p):(Ah l)[i]?=some p.1.data.toList:=by
 unfold Ah;rw[Iy];simp[Cu,a]
theorem F4 (l:List Ln):(Ah l).length=l.length:=by simp[Ah,dat,Cu]
theorem EM (l:List Ln)(k:Nat):Ah (l.drop k)=(Ah l).drop k:=by simp[Ah,dat,Cu]
theorem Zt (l:List Ln)(k:Nat):Ah (l.take k)=(Ah l).take k:=by simp[Ah,dat,Cu,List.map_take]
def Num (z:Int)(l:List Ln):Prop:=∀(i:Nat) (a:Ln),l[i]?=some a->a.2=z+i
theorem Num.drop {z:Int}{l:List Ln}(d:Num z l)(k:Nat):Num (z+k) (l.drop k):=by
 intro i f a;rw[Qn]at a;have:=d (k+i) f a;rw[this];omega
def Fz (w:Sw)(b d:Nat)(l:List Ln):Prop:=(∀(i:Nat) (a:Ln),l[i]?=some a->w.cell? (b (d+i*2))=some (.string a.1)/\w.cell? (b (d+i*2+1))=some (.int .i64 a.2))/\tot (Cu l)<=1000000
theorem Fz.len {w:Sw}{b g:Nat}{l:List Ln}(a:Fz w b g l):l.length<=1000000:=by
 have d:=OX (Cu l);have f:=a.2;simp only[Cu,List.length_map]at d f;omega
theorem Fz.size {w:Sw}{b f:Nat}{l:List Ln}(a:Fz w b f l)(i:Nat)(p:Ln)(d:l[i]?=some p):p.1.size<=1000000:=by
 have g:=J6 (Cu l) i p.1 (by simp[Cu,d]);have h:=a.2;omega
theorem Fz.below {w w':Sw}{n b a:Nat}{l:List Ln}(d:Fz w b a l)(f:Below n w w')(h:b<n):Fz w' b a l:=
 ⟨λi p g=>⟨(f.cell (p:=⟨b,a+i*2,none⟩) h).trans (d.1 i p g).1,(f.cell (p:=⟨b,a+i*2+1,none⟩) h).trans (d.1 i p g).2⟩,d.2⟩
theorem Fz.drop {w:Sw}{b a:Nat}{l:List Ln}(d:Fz w b a l)(k:Nat):Fz w b (a+k*2) (l.drop k):=by
 refine⟨λi h f=>?_,?_⟩
 ·rw[Qn]at f;have:=d.1 (k+i) h f;rw[show a+(k+i)*2=a+k*2+i*2 by omega]at this;exact this
 have:=NJ (Cu l) k;have g:=d.2;simp only[Cu,List.map_drop]at this g ⊢;omega
theorem Fz.take {w:Sw}{b f:Nat}{l:List Ln}(d:Fz w b f l)(k:Nat):Fz w b f (l.take k):=by
 refine⟨λi j a=>?_,?_⟩
 ·by_cases h:i<k
  ·rw[Qbe h]at a;exact d.1 i j a
  have:=(Qb.1 a).1;rw[Ql]at this;omega
 have:=BD (Cu l) k;have g:=d.2;simp only[Cu,List.map_take]at this g ⊢;omega
theorem Z0 {w:Sw}{B:Nat}{a:So}{j:Nat}{l:List Ln}(h:w.ownsRow B 116 2 (.slice a l.length j) l.length (Ja l))(y:tot (Cu l)<=1000000)(C:0<l.length):∃g,a=some ⟨g,0,none⟩/\B<=g/\g<w.heap.size/\l.length<=j/\Fz w g 0 l:=by
 rcases h.2 with ⟨_,k⟩|⟨g,z,A,r,k,s,t,_⟩
 ·omega
 injection r with e1 e2 e3
 subst e1 e3;refine⟨g,rfl,k,(Qq.1 s).1,t,λi q v=>?_,y⟩;have m:∀d f,(Pf q)[d]?=some f->w.cell? ⟨g,0+i*2+d,none⟩=some f:=by
  intro d f o;have x:d<2:=by have:=(Qb.1 o).1;simpa [Pf]using this
  have p:=zc9 l i d q v x;rw[o]at p;have:=h.cells (g:=g) rfl (2*i+d) f p;have u:(⟨g,0,none⟩:Addr).add (2*i+d)=⟨g,0+i*2+d,none⟩:=by
   simp only[Addr.add];split;·rename_i h;simp<;>omega
   simp<;>omega
  rwa [u]at this
 exact⟨m 0 _ rfl,m 1 _ rfl⟩
theorem Tryz.Zm:(prog.info? 116).map (λi=>(i.zero,i.size,i.bytes))=some (some (.agg #[(),O]),2,24):=Sk
structure PG (w:Sw)(s:Sb)(k f:Nat)(os:List Ln)(a:So)(cp:Nat)(wr:Sw):Prop where
 le:f<=k
 len:k<=s.size
 count:os.length<=f
 none:10∉(s.data.toList.drop f).take (k-f)
 spec:S.Aw s=Ah os++S.Aw (s.data.toList.drop f)
 num:Num 0 os
 own:wr.ownsRow w 116 2 (.slice a os.length cp) os.length (Ja os)
 below:Below w w wr
theorem Num.snoc {l:List Ln}(d:Num 0 l)(s:Sb):Num 0 (l++[(s,(l.length:Int))]):=by
 intro i h a;by_cases g:i<l.length
 ·rw[Qbd g]at a;exact d i h a
 rw[Qu Z]at a;have f:i-l.length=0:=by have:=(Qb.1 a).1;simp at this;omega
 rw[f]at a;simp at a;subst a;show (l.length:Int)=_;omega
theorem DK (s:Sb)(w:Sw)(ap:s.size<=1048576):Calls prog 48 #[s] w λe ab=>∃a j k,e=.returned (.slice j a.length k)/\U (Ah a=S.Aw s/\Num 0 a)/\ab.ownsRow w 116 2 (.slice j a.length k) a.length (Ja a)/\Below w w ab:=by
 obtain⟨i0,N,T,W,aa⟩:=info_parts Tryz.Zm;go_enter func48,ntmps48;go_wp2;go_loopw [3,4,5] (λal ac i wr=>∃(d g:Nat) (a:List Ln) (j:So) (k:Nat),al=.slice j a.length k/\ac=.int .i64 g/\i=.int .i64 d/\PG w s d g a j k wr) (λ_ _ i _=>s.size-(intOf i).toNat)
 case atStart=>exact⟨0,0,[],none,0,rfl,rfl,rfl,⟨Qc _,Qt _,Qc _,Y,by simp[Ah,dat,Cu],λi ar ae=>by simp at ae,Sqg _ _ _ _,Sr⟩⟩
 case round=>
  obtain⟨d,g,a,j,k,rfl,rfl,rfl,m⟩:=hrel;have f:=V m;have P:=m.le;have ao:=m.len;have am:=m.count;have Q:=m.below.size;clear m;by_cases aj:d<s.size
  ·have p:=S.Bz s d aj;by_cases o:s[d]=10
   ·have R:s[d].toNat=10:=(by rw[o];rfl);rw[o]at p;have u:=V (S.zdj _ g d P p f.q.none);have G:=V (λK=>f.q.own.alloc K);have E:U (∀l h,([Value.string (s.extract g d),.int .i64 (a.length:Int)]:List Value)[l]?=some h->(wr.alloc (.cells #[.string (s.extract g d),.int .i64 (a.length:Int)] 116)).cell? ((wr:Addr).add l)=some h):=V (λl h A=>World.news_of_block (Ak _ _) l h (by exact A));have F:U (∀h∈([Value.string (s.extract g d),.int .i64 (a.length:Int)]:List Value),h.oneCell'=true):=V (by
     intro h v;simp at v;rcases v with rfl|rfl<;>rfl)
    clear p o;go_wp2_with (at_builtin;refine wpList_append_lies _ I _ _ 83 I w 116 i0 (.agg #[(),O]) 2 24 underlying83 N T W aa I Z (.slice j a.length k) a.length (Ja a) I (G.q _) wr 1 1 [.string (s.extract g d),.int .i64 (a.length:Int)] I I E.q F.q Z (by unfold maxLen;omega) Z (by simp;omega) ((wr:Nat)+1) Y ?_)
    intro y x M t q z C;have r:=f.q.own.lt;have af:U (PG w s (d+1) (d+1) (a++[(s.extract g d,(a.length:Int))]) (some y) x M):=V (by
     refine⟨Qc _,Z,by simp;omega,Y,?_,f.q.num.snoc _,?_,?_⟩;·rw[f.q.spec,u.q,<-S.extract_data];simp[Ah,dat,Cu]
     ·rw[Qa,Yh];exact t
     exact Sqi (f.q.below.alloc Q _) q (by simp;omega) (λL H=>(r L H).1))
    clear t q z C r;go_wp2;go_roundw
    case rel=>exact⟨d+1,d+1,a++[(s.extract g d,(a.length:Int))],some y,x,Y,by go_num,by go_num,af.q⟩
    case measure=>exact Sj
   have R:¬s[d].toNat=10:=λe=>o (Qk.1 (by rw[e];rfl));have aq:(((s[d].toNat:Nat):Int) == 10)=false:=by rw[Qe];omega
   have u:=V (S.zbz _ g d P _ p o f.q.none);clear p o R;go_wp2;go_roundw
   case rel=>exact⟨d+1,g,a,j,k,rfl,rfl,by go_num,⟨Z,Z,f.q.count,u.q,f.q.spec,f.q.num,f.q.own,f.q.below⟩⟩
   case measure=>exact Sj
  have ai:d=s.size:=Z;subst ai;have D:=f.q.none;rw[Qbj (by rw[Qf,S.lda];exact Qc _)]at D;by_cases an:g<s.size
  ·have u:=V (S.zcw _ D (by intro e;have:=congrArg List.length e;rw[Qf,S.lda]at this;simp at this;omega));have G:=V (λK=>f.q.own.alloc K);have E:U (∀l h,([Value.string (s.extract g s.size),.int .i64 (a.length:Int)]:List Value)[l]?=some h->(wr.alloc (.cells #[.string (s.extract g s.size),.int .i64 (a.length:Int)] 116)).cell? ((wr:Addr).add l)=some h):=V (λl h A=>World.news_of_block (Ak _ _) l h (by exact A));have F:U (∀h∈([Value.string (s.extract g s.size),.int .i64 (a.length:Int)]:List Value),h.oneCell'=true):=V (by
    intro h v;simp at v;rcases v with rfl|rfl<;>rfl)
   clear D;go_wp2_with (at_builtin;refine wpList_append_lies _ I _ _ 83 I w 116 i0 (.agg #[(),O]) 2 24 underlying83 N T W aa I Z (.slice j a.length k) a.length (Ja a) I (G.q _) wr 1 1 [.string (s.extract g s.size),.int .i64 (a.length:Int)] I I E.q F.q Z (by unfold maxLen;omega) Z (by simp;omega) ((wr:Nat)+1) Y ?_)
   intro y x M t q z C;have r:=f.q.own.lt;have ag:U (Below w w M):=V (Sqi (f.q.below.alloc Q _) q (by simp;omega) (λL H=>(r L H).1));have ak:=V t;clear t q z C r;go_wp2;go_ret;refine⟨a++[(s.extract g s.size,(a.length:Int))],some y,x,by rw[Qa];rfl,V ⟨?_,f.q.num.snoc _⟩,?_,ag.q⟩;·rw[f.q.spec,u.q,<-S.Iw];simp[Ah,dat,Cu]
   rw[Qa,Yh];exact ak.q
  have ah:g=s.size:=Z;subst ah;go_wp2;go_ret;refine⟨a,j,k,rfl,V ⟨?_,f.q.num⟩,f.q.own,f.q.below⟩;rw[f.q.spec,Qw (by rw[S.lda];exact Qc _)];simp[S.Aw]
def Fu (l:List (List UInt8)):Nat:=(l.reverse.dropWhile (λa=>S.Ar a)).length
theorem LH (l:List (List UInt8))(n:Nat)(r:n<=l.length)(p:∀d a,n<=d->l[d]?=some a->S.Ar a=true)(q:n=0\/∃a,l[n-1]?=some a/\S.Ar a=false):Fu l=n:=by
 unfold Fu;have s:=(Sy n l).symm;have k:l.reverse=(l.drop n).reverse++(l.take n).reverse:=by rw[<-List.reverse_append,Sy]
 rw[k,List.dropWhile_append_of_pos]
 ·rcases q with j|⟨a,f,m⟩
  ·subst j;simp
  cases n with
  |zero=>simp
  |succ n=>
   rw[SF]at f;have o:l.take (n+1)=l.take n++[a]:=by rw[Sv,f];rfl
   rw[o,List.reverse_append,List.reverse_singleton,List.singleton_append,List.dropWhile_cons,m];simp only[Bool.false_eq_true,if_false,Qd,List.length_reverse,Ql];omega
 intro a h;rw[List.mem_reverse]at h;obtain⟨d,g⟩:=List.getElem?_of_mem h;rw[Qn]at g;exact p (n+d) a Z g
theorem LG (b x y:Nat)(d:List Ln)(w:Sw)(u:Fz w b x d):Calls prog 131 #[.slice (some (b x)) d.length y] w λe o=>e=.returned (.int .i64 (Fu (Ah d):Nat))/\o=w:=by
 have N:=u.len;have v:=V u;clear u;go_enter func131,ntmps131;go_wp2;go_loop [3] (λi=>∃h:Nat,h<=d.length/\i=.int .i64 h/\∀f j,h<=f->(Ah d)[f]?=some j->S.Ar j=true) (λi=>(intOf i).toNat)
 case atStart=>exact⟨d.length,Qc _,rfl,by
  intro f j E k;have:=(Qb.1 k).1;rw[F4]at this;omega⟩
 case round=>
  obtain⟨h,M,rfl,l⟩:=hrel;by_cases H:0<h
  ·obtain⟨a,rfl⟩:∃a,h=a+1:=⟨h-1,Z⟩;obtain⟨g,p⟩:∃g,d[a]?=some g:=⟨d[a],Qg Z⟩;have D:=(v.q.1 a g p).1;have G:=v.q.size a g p;have hd:=Jh d a g p;have P:IntKind.i64.wrap (((a+1:Nat):Int)-1)=(a:Int):=by rw[Sqe];omega
   have K:(0:Int)<=(a:Int):=Z;have L:(a:Int)<(d.length:Int):=Z;have r:=Lb g.1 w G;obtain⟨q,m⟩:=Qyy (S.Ar g.1.data.toList);rw[m]at r;have s:U (Calls prog 67 #[.string g.1] w λe o=>e=.returned q/\w=o):=V (r.mono (λe o ⟨z,A⟩=>⟨z,A.symm⟩));obtain⟨Q,R⟩:=g;dsimp only at D s m hd;cases q
   ·have t:U (Fu (Ah d)=a+1):=V (LH _ (a+1) (by rw[F4];omega) l (.inr ⟨_,by rw[SF];exact hd,m⟩));clear l hd p r m;go_wp2_with (fail);apply s.m;rintro e o⟨rfl,rfl⟩;go_wp2;go_ret;exact⟨Bu (by rw[t.q];simp),rfl⟩
   have C:U (∀f j,a<=f->(Ah d)[f]?=some j->S.Ar j=true):=V (by
    intro f j E k;by_cases e:f=a
    ·subst e;rw[hd]at k;injection k with k;rw[<-k];exact m
    exact l f j Z k)
   clear l hd p r m;go_wp2_with (fail);apply s.m;rintro e o⟨rfl,rfl⟩;go_wp2;exact⟨⟨a,Z,by go_num,C.q⟩,by simp[intOf]⟩
  have F:h=0:=Z;subst F;have t:U (Fu (Ah d)=0):=V (LH _ 0 (Qt _) l (.inl rfl));clear l;go_wp2;go_ret;exact⟨Bu (by rw[t.q];rfl),rfl⟩
theorem Nl (a b:Sb)(d:a.size+b.size<=9223372036854775807):Op.stringOp .add a b=pure (.string (a++b)):=by
 unfold Op.stringOp;dsimp only;rw[if_neg];rw[show IntKind.i64.max=9223372036854775807 from by decide];omega
inductive Rn where
 |nd (kind n:Int) (info text:List UInt8) (line:Int) (Ab:List Rn)
def Rn.kind:Rn->Int | .nd k _ _ _ _ _=>k
def Rn.n:Rn->Int | .nd _ n _ _ _ _=>n
def Rn.info:Rn->List UInt8 | .nd _ _ i _ _ _=>i
def Rn.text:Rn->List UInt8 | .nd _ _ _ t _ _=>t
def Rn.line:Rn->Int | .nd _ _ _ _ z _=>z
def Rn.Ab:Rn->List Rn | .nd _ _ _ _ _ k=>k
def Ko (t:Rn)(kv:Value):List Value:=[.int .i64 0,.int .i64 t.kind,.int .i64 t.n,.string (S.B t.info),.string (S.B t.text),.int .i64 t.line,kv]
def Ob (t:Rn)(kv:Value):Value:=.agg (Ko t kv).toArray
inductive Bv (w:Sw)(A:Nat->Prop):Value->List Rn->Prop
 |nil:Bv w A (.slice none 0 0) []
 |some (b o cap:Nat) (ns:List Rn) (kv:Nat->Value) (ha:A b) (hcap:ns.length<=cap)
   (hc:∀(i:Nat) (t:Rn),ns[i]?=some t->∀j u,(Ko t (kv i))[j]?=some u->w.cell? (b (o+i*7+j))=some u)
   (hk:∀(i:Nat) (t:Rn),ns[i]?=some t->Bv w A (kv i) t.Ab):Bv w A (.slice (some (b o)) ns.length cap) ns
theorem Bv.move {w w':Sw}{A A':Nat->Prop}{v:Value}{ns:List Rn}(l:Bv w A v ns)(m:∀b,A b->A' b)(r:∀b,A b->w'.heap[b]?=w.heap[b]?):Bv w' A' v ns:=by
 induction l with
 |nil=>exact .nil
 |some b j k ns t g p o x s=>
  exact .some b j k ns t (m b g) p (λi f d h u q=>(World.cell?_of_block (a:=⟨b,j+i*7+h,none⟩) (r b g)).trans (o i f d h u q)) (λi f d=>s i f d)
theorem Bv.form {w:Sw}{A:Nat->Prop}{v:Value}{ns:List Rn}(d:Bv w A v ns):∃a n c,v=.slice a n c:=by
 cases d with
 |nil=>exact⟨_,_,_,rfl⟩
 |some=>exact⟨_,_,_,rfl⟩
theorem I8 {W:Sw}{N T:Nat}{s q o l j g d:Value}(t:W.heap[N]?=some (.cells #[s,q,o,l,j,g,d] T (0,0)))(a f h k m p r:Value):(((((((W.setCell N a).setCell (N 1) f).setCell (N 2) h).setCell (N 3) k).setCell (N 4) m).setCell (N 5) p).setCell (N 6) r).heap[N]?=some (.cells #[a,f,h,k,m,p,r] T (0,0)):=
 Aj (cs:=[a,f,h,k,m,p,d]) (Aj (cs:=[a,f,h,k,m,g,d]) (Aj (cs:=[a,f,h,k,j,g,d]) (Aj (cs:=[a,f,h,l,j,g,d]) (Aj (cs:=[a,f,o,l,j,g,d]) (Aj (cs:=[a,q,o,l,j,g,d]) (Aj (cs:=[s,q,o,l,j,g,d]) t 0 a) 1 f) 2 h) 3 k) 4 m) 5 p) 6 r
theorem Iq {B:Nat}{w W:Sw}{N:Nat}(d:Below B w W)(a:B<=N)(f g h j k l m:Value):Below B w (((((((W.setCell N f).setCell (N 1) g).setCell (N 2) h).setCell (N 3) j).setCell (N 4) k).setCell (N 5) l).setCell (N 6) m):=
 ((((((d.setCell (p:=⟨N,0,none⟩) a _).setCell (p:=⟨N,1,none⟩) a _).setCell (p:=⟨N,2,none⟩) a _).setCell (p:=⟨N,3,none⟩) a _).setCell (p:=⟨N,4,none⟩) a _).setCell (p:=⟨N,5,none⟩) a _).setCell (p:=⟨N,6,none⟩) a _
theorem Rq (w:Sw):∃a,a=w.alloc (.cells #[O,O,O,(),(),O,Sx] 118)/\Below w w a/\a.heap.size=(w:Nat)+1/\a.heap[w.heap.size]?=some (.cells #[O,O,O,(),(),O,Sx] 118 (0,0)):=
 ⟨_,rfl,Sr.alloc (Qc _) _,Y,Ak _ _⟩
def Du (m:Nat)(a:List UInt8):Bool:=S.Ar a||decide (m<=S.Ap a)
theorem U9 (a:List UInt8)(t:List (List UInt8)):Fu (a::t)=if Fu t=0 then (if S.Ar a=true then 0 else 1)else Fu t+1:=by
 unfold Fu;rw[List.reverse_cons,List.dropWhile_append];by_cases d:(List.dropWhile (λa=>S.Ar a) t.reverse).isEmpty=true
 ·rw[if_pos d];have f:(List.dropWhile (λa=>S.Ar a) t.reverse).length=0:=by simpa using d
  rw[if_pos f,List.dropWhile_cons];split<;>simp_all
 rw[if_neg d];have f:¬(List.dropWhile (λa=>S.Ar a) t.reverse).length=0:=by simpa using d
 rw[if_neg f];simp
theorem KL (m z k:Nat)(l:List (List UInt8)):S.F9 m z k l=if Fu (l.takeWhile (Du m))=0 then z else k+Fu (l.takeWhile (Du m)):=by
 induction l generalizing z k with
 |nil=>simp[S.F9,Fu]
 |cons g p o=>
  simp only[S.F9];by_cases a:S.Ar g=true
  ·have f:Du m g=true:=by simp[Du,a]
   rw[if_pos a,o,List.takeWhile_cons,if_pos f,U9,if_pos a];by_cases d:Fu (p.takeWhile (Du m))=0
   ·simp[d]
   simp[d];omega
  rw[if_neg a];by_cases j:(S.Ap g:Int)<(m:Int)
  ·have f:¬Du m g=true:=by
    unfold Du;rw[Bool.or_eq_true,Sd];rintro(h|h);·exact a h
    omega
   rw[if_pos j,List.takeWhile_cons,if_neg f];simp[Fu]
  have f:Du m g=true:=by unfold Du;rw[Bool.or_eq_true,Sd];right;omega
  rw[if_neg j,o,List.takeWhile_cons,if_pos f,U9,if_neg a];by_cases d:Fu (p.takeWhile (Du m))=0
  ·simp[d]
  simp[d];omega
theorem zmh (m:Nat)(a:List UInt8)(r:List (List UInt8))(f:S.Ar a=false)(g:m<=S.Ap a):Fu ((a::r).takeWhile (Du m))=S.Da m (a::r):=by
 unfold S.Da;have h:Du m a=true:=by unfold Du;rw[Bool.or_eq_true,Sd];exact .inr g
 rw[List.tail_cons,KL,List.takeWhile_cons,if_pos h,U9,f];by_cases d:Fu (r.takeWhile (Du m))=0
 ·simp[d]
 simp[d];omega
theorem BA {α:Type}(p : α->Bool)(l:List α)(k:Nat)(h:∀d a,d<k->l[d]?=some a->p a=true)(o:k<=l.length)(j:∀a,l[k]?=some a->p a=false):l.takeWhile p=l.take k:=by
 induction l generalizing k with
 |nil=>simp
 |cons a s q=>
  cases k with
  |zero=>have:=j a Y;simp[this]
  |succ k=>
   have m:=h 0 a Z Y;rw[List.takeWhile_cons,if_pos m,Qz,q k (λd g r f=>h (d+1) g Z (by simpa using f)) (by simpa using o) (λg f=>j g (by simpa using f))]
theorem zlm (b ai K:Nat)(a:List Ln)(w:Sw)(ce:a.length<=K)(af:Fz w b ai a)(bf:b<w)(aq:∃d,a[0]?=some d/\S.Ar d.1.data.toList=false/\4<=S.Ap d.1.data.toList):Calls prog 94 #[.slice (some (b ai)) a.length K] w λe h=>e=.returned (.tuple #[Ob (.nd 3 0 [] (S.Hy ((Ah a).take (S.Da 4 (Ah a)))) 0 []) (.slice none 0 0),(S.Da 4 (Ah a):Nat)])/\Below w w h:=by
 obtain⟨k,au,an,ch,a4⟩:=Rq w;have cf:=af.len;have a3:=af.below an bf;have A:=V a3;have ay:Fu ((Ah a).takeWhile (Du 4))=S.Da 4 (Ah a):=by
  obtain⟨d,m,bk,bl⟩:=aq;cases hd:Ah a with
  |nil=>have:=Jh a 0 d m;rw[hd]at this;simp at this
  |cons j bp=>
   have D:j=d.1.data.toList:=by have:=Jh a 0 d m;rw[hd]at this;simpa using this
   subst D;exact zmh 4 _ bp bk bl
 have bh:=V ay;have y:=V a4;have bc:=V an;have bb:=V au;have cg:=af.2;clear au an a4 af a3 ay aq;go_enter func94,ntmps94;go_upto_region 1 with fail
 rw[<-bb.q];go_wp2;go_loop [4] (λi=>∃f:Nat,f<=a.length/\i=.int .i64 f/\∀g j,g<f->(Ah a)[g]?=some j->Du 4 j=true) (λi=>a.length-(intOf i).toNat)
 case atStart=>exact⟨0,Qt _,rfl,by intro g j a0;omega⟩
 case round=>
  obtain⟨f,a1,rfl,W⟩:=hrel;by_cases ab:∃j,(Ah a)[f]?=some j/\Du 4 j=true
  ·obtain⟨j,ah,P⟩:=ab;have ac:f<a.length:=by have:=(Qb.1 ah).1;rw[F4]at this;exact this
   obtain⟨d,m⟩:∃d,a[f]?=some d:=⟨a[f],Qg ac⟩;have bo:j=d.1.data.toList:=by have:=Jh a f d m;rw[ah]at this;exact Qy this
   subst bo;have L:=(A.q.1 f d m).1;have x:=A.q.size f d m;have av:U (∀g j,g<f+1->(Ah a)[g]?=some j->Du 4 j=true):=V (by
    intro g j a0 D;by_cases e:g=f
    ·subst e;rw[ah]at D;rw[<-Qy D];exact P
    exact W g j Z D)
   have t:=Lb d.1 k x;have u:=Mw d.1 k x;have G:S.Ar d.1.data.toList=true\/4<=S.Ap d.1.data.toList:=by unfold Du at P;rw[Bool.or_eq_true,Sd]at P;exact P
   obtain⟨o,a5⟩:=d;dsimp only at L t u G x;obtain⟨Q,ax⟩:=Qyy (S.Ar o);obtain⟨n,M⟩:=Qyy (S.Ap o);rw[ax]at t G;rw[M]at u G;have F:U (Calls prog 67 #[o] k λe h=>e=.returned Q/\k=h):=V (t.mono (λe h ⟨r,s⟩=>⟨r,s.symm⟩));have al:U (Calls prog 88 #[o] k λe h=>e=.returned n/\k=h):=V (u.mono (λe h ⟨r,s⟩=>⟨r,s.symm⟩));have a7:(0:Int)<=(f:Int):=Z;have ak:(f:Int)<(a.length:Int):=Z;clear W ah P m t u ax M;cases Q
   ·have a6:(4:Int)<=(n:Int):=by
     rcases G with q|q
     ·cases q
     omega
    clear G;go_wp2_with (fail);apply F.m;rintro e h⟨rfl,rfl⟩;go_wp2_with (fail);apply al.m;rintro e h⟨rfl,rfl⟩;go_wp2;exact⟨⟨f+1,Z,by go_num,av.q⟩,by simp[intOf];omega⟩
   clear G;go_wp2_with (fail);apply F.m;rintro e h⟨rfl,rfl⟩;go_wp2;exact⟨⟨f+1,Z,by go_num,av.q⟩,by simp[intOf];omega⟩
  have ar:(Ah a).takeWhile (Du 4)=(Ah a).take f:=BA _ _ f W (by rw[F4];exact a1) (λj D=>by
   by_cases q:Du 4 j=true
   ·exact absurd ⟨j,D,q⟩ ab
   simpa using q)
  have R:=LG b ai K (a.take f) k (A.q.take f);have am:Fu (Ah (a.take f))=S.Da 4 (Ah a):=by rw[Zt,<-ar];exact bh.q
  rw[am,Ql,SI a1]at R;obtain⟨N,T⟩:=Qyy (S.Da 4 (Ah a));have cb:N<=f:=by
   rw[<-T,<-am];unfold Fu;have:=(List.dropWhile_sublist (λj=>S.Ar j) (l:=(Ah (a.take f)).reverse)).length_le;rw[List.length_reverse,F4,Ql]at this;omega
  rw[T]at R;have a9:U (Calls prog 131 #[.slice (some (b ai)) f K] k λe h=>e=.returned N/\k=h):=V (R.mono (λe h ⟨r,s⟩=>⟨r,s.symm⟩));have ba:=V T;have b9:(0:Int)<=(f:Int):=Z;have ca:(f:Int)<=(K:Int):=Z;have bi:=V ab;clear W ar R am T ab;go_upto_region 2 with fail
  go_cut [27] (λbq bs=>bq=.bool false/\k=bs)
  case first=>
   by_cases ac:f<a.length
   ·obtain⟨d,m⟩:∃d,a[f]?=some d:=⟨a[f],Qg ac⟩;have L:=(A.q.1 f d m).1;have x:=A.q.size f d m;have ae:¬Du 4 d.1.data.toList=true:=λq=>bi.q ⟨_,Jh a f d m,q⟩;have t:=Lb d.1 k x;have u:=Mw d.1 k x;obtain⟨o,a5⟩:=d;dsimp only at L t u ae x;have aw:S.Ar o=false:=by
     cases q:S.Ar o.data.toList with
     |false=>rfl
     |true=>exact absurd (by unfold Du;rw[q];rfl) ae
    have az:¬4<=S.Ap o.data.toList:=λq=>ae (by unfold Du;rw[Sl q,Bool.or_true]);obtain⟨n,M⟩:=Qyy (S.Ap o);rw[aw]at t;rw[M]at u az;have F:U (Calls prog 67 #[o] k λe h=>e=.returned false/\k=h):=V (t.mono (λe h ⟨r,s⟩=>⟨r,s.symm⟩));have al:U (Calls prog 88 #[o] k λe h=>e=.returned n/\k=h):=V (u.mono (λe h ⟨r,s⟩=>⟨r,s.symm⟩));have a6:¬(4:Int)<=(n:Int):=Z;have ak:(f:Int)<(a.length:Int):=Z;clear m ae t u aw az M;go_wp2_with (fail);apply F.m;rintro e h⟨rfl,rfl⟩;go_wp2_with (fail);apply al.m;rintro e h⟨rfl,rfl⟩;go_wp2;go_meet;exact⟨by first|rfl|(congr 1;rw[decide_eq_false_iff_not];omega),rfl⟩
   have ak:¬(f:Int)<(a.length:Int):=Z;go_wp2;go_meet;exact⟨rfl,rfl⟩
  case rest=>
  obtain⟨rfl,rfl⟩:=hcut;go_wp2_with fail
  apply a9.m;rintro e h⟨rfl,rfl⟩;go_wp2;go_loop [5,6] (λbr i=>∃g:Nat,g<=N/\i=.int .i64 g/\br=.string (S.B (S.Hy ((Ah a).take g)))) (λ_ i=>N-(intOf i).toNat)
  case atStart=>exact⟨0,Qt _,rfl,rfl⟩
  case round=>
   obtain⟨g,a0,rfl,rfl⟩:=hrel;by_cases ac:g<N
   ·obtain⟨d,m⟩:∃d,a[g]?=some d:=⟨a[g]'Z,Qg Z⟩;have L:=(A.q.1 g d m).1;have x:=A.q.size g d m;have H:=TG (Cu a) g d.1 (by simp[Cu,m]);have ao:=UE (Cu a) (g+1);obtain⟨o,a5⟩:=d;dsimp only at L x H;rw[show dat (Cu a)=Ah a from rfl]at H ao;have aj:=Z8 o 4 k Z;obtain⟨p,C⟩:=Qyy (S.Hy ((Ah a).take g));obtain⟨ap,ag⟩:=Qyy (S.Hy ((Ah a).take (g+1)));rw[C,ag]at H;rw[ag]at ao;rw[C];obtain⟨z,aa⟩:=Qyy (S.B (o.data.toList.drop 4));rw[aa]at aj;have F:U (Calls prog 132 #[o,(4:Int)] k λe h=>e=.returned z/\k=h):=V (aj.mono (λe h ⟨r,s⟩=>⟨r,s.symm⟩));have a2:=congrArg List.length H;simp only[Qa,List.length_singleton]at a2;have bd:z.size=(o.data.toList.drop 4).length:=(by rw[<-aa,S.Bc]);have cc:Op.stringOp .add (S.B p) z=pure (.string (S.B p++z)):=Nl _ _ (by rw[S.Bc];omega);have cd:Op.stringOp .add (S.B p++z) ⟨#[10]⟩=pure (.string (S.B ap)):=by
     rw[Nl _ _ (by rw[ByteArray.size_append,S.Bc];show p.length+z.size+1<=_;omega)];congr 2
     rw[H,<-aa];unfold S.B;apply ByteArray.ext
     simp[ByteArray.data_append]
    have a7:(0:Int)<=(g:Int):=Z;have ak:(g:Int)<(a.length:Int):=Z;have a8:(g:Int)<(N:Int):=Z;have bn:=V ag;clear m H ao aj aa C ag a2 bd;go_wp2_with (fail);apply F.m;rintro e h⟨rfl,rfl⟩;go_wp2;exact⟨⟨g+1,Z,by go_num,by rw[bn.q]⟩,by simp[intOf];omega⟩
   have bj:g=N:=Z;subst bj;have a8:¬(g:Int)<(g:Int):=Z;have b1:=X y.q 0 _ rfl;have b2:=X y.q 1 _ rfl;have b3:=X y.q 2 _ rfl;have b4:=X y.q 3 _ rfl;have b5:=X y.q 4 _ rfl;have b6:=X y.q 5 _ rfl;have b7:=X y.q 6 _ rfl;have b8:=Av y.q;obtain⟨p,C⟩:=Qyy (S.B (S.Hy ((Ah a).take g)));rw[C];have E:=V (I8 y.q (.int .i64 0) (.int .i64 3) (.int .i64 0) (.string ⟨#[]⟩) (.string p) (.int .i64 0) (.slice none 0 0));have bg:=V (Iq (N:=w.heap.size) bc.q (Qc _) (.int .i64 0) (.int .i64 3) (.int .i64 0) (.string ⟨#[]⟩) (.string p) (.int .i64 0) (.slice none 0 0));have bm:=V C;clear C;go_wp2;refine Sqk (v:=.tuple #[.agg #[O,(3:Int),O,(),p,O,Sx],.int .i64 (g:Nat)]) (by have bt:=X E.q 0 _ rfl;have bu:=X E.q 1 _ rfl;have bv:=X E.q 2 _ rfl;have bw:=X E.q 3 _ rfl;have bx:=X E.q 4 _ rfl;have bz:=X E.q 5 _ rfl;have b0:=X E.q 6 _ rfl;simp[results,results94,go_sem,bt,bu,bv,bw,bx,bz,b0]) rfl ?_;exact⟨by rw[ba.q,<-bm.q];rfl,bg.q⟩
