import Derived.Test.YtlojgpkajkedeaaGreatDoorOW9
import Derived.Test.YtlojgpkajkedeaaGreatDoorOE1
import Derived.Test.YtlojgpkajkedeaaGreatDoorOD1
import Derived.Deep.LoopGhost
set_option maxHeartbeats 0
set_option maxRecDepth 100000
namespace Go.Proofs.YtlojgpkajkedeaaGreatDoor
open Go.RowKit Go.Proofs.Tryz
theorem zm9 (c A T:Nat)(cs:List Value)(P j k:List Mem)(a d b:Mem)(w:Sw)(o:Ch w c A T cs (P++a::(d::j++b::k))):Calls prog 238 #[.pointer (some (c A)),.pointer (some a.m),.pointer (some b.m)] w λe ap=>e=.returned (.agg #[.pointer (some d.m),.pointer (A9 (d::j) none)])/\Ch ap c A T cs (P++a::b::k)/\Seg ap none (d::j) none/\Fr (c::Ad (P++a::(d::j++b::k))) w ap:=by
 have b0:=o.lt;obtain⟨m,af⟩:=Qzz (P++a::(d::j++b::k));rw[<-af]at o ⊢;have t:m=(P++[a])++((d::j)++b::k):=by rw[af];simp
 have y:Ad m=Ad (P++[a])++(Ad (d::j)++Ad (b::k)):=by rw[t,Dk (P++[a]),Dk (d::j)]
 have K:=o.seg;rw[t,Eu,Eu,Eu]at K;have aw:=K.1.2.cells;have cp:w.cell? (a.m 9)=some (.pointer (some d.m)):=X aw 9 _ rfl;obtain⟨bp,l,C⟩:=Vl (d::j) Y;have bb:A9 (d::j) none=some (l.m:Addr):=by rw[C];exact J5 _ _ _
 have bc:∀ar,A9 (d::j) ar=some (l.m:Addr):=by intro ar;rw[C];exact J5 _ _ _
 have N:=K.2.2.cells;rw[bc]at N;have cq:w.cell? (b.m 8)=some (.pointer (some l.m)):=X N 8 _ rfl;obtain⟨co,bo,a2⟩:=Vl (b::k) Y;have ba:A9 m none=some (bo.m:Addr):=by rw[t,Le,Le,a2];exact J5 _ _ _
 have cr:w.cell? (c (A+1))=some (.pointer (some bo.m)):=by rw[<-ba];exact o.hdr.cellL
 have p:∀g∈Ad m,g<w:=o.mlt;have F:∀g∈Ad (P++[a]),g∈Ad m:=λg h=>by rw[y];exact SH _ h
 have G:∀g∈Ad (d::j),g∈Ad m:=λg h=>by rw[y];exact SV _ (SH _ h)
 have H:∀g∈Ad (b::k),g∈Ad m:=λg h=>by rw[y];exact SV _ (SV _ h)
 have ao:l.m∈Ad (d::j):=by rw[C];simp[Ad]
 have aa:d.m∈Ad (d::j):=by simp[Ad]
 have ag:b.m∈Ad (b::k):=by simp[Ad]
 have a3:a.m∈Ad (P++[a]):=by simp[Ad]
 have cw:a.m<w:=p _ (F _ a3);have bz:b.m<w:=p _ (H _ ag);have c3:l.m<w:=p _ (G _ ao);have b8:d.m<w:=p _ (G _ aa);have cu:¬a.m=w.heap.size:=Z;have cv:¬a.m=(w:Nat)+1:=Z;have cx:¬b.m=w.heap.size:=Z;have cy:¬b.m=(w:Nat)+1:=Z;have a5:¬c=w.heap.size:=Z;have cz:¬c=(w:Nat)+1:=Z;have cf:¬l.m=w.heap.size:=Z;have c2:¬l.m=(w:Nat)+1:=Z;have b7:¬d.m=w.heap.size:=Z;have c0:¬d.m=(w:Nat)+1:=Z;have ak:=o.nodup;rw[y]at ak;have z:=Sqd.1 ak;have M:=Sqd.1 z.2.1;have E:=o.q;rw[y,Qbh,Qbh,not_or,not_or]at E;have bd:(d.m:Addr)≠b.m:=λe=>M.2.2 d.m aa b.m ag (by injection e);have ay:=K.2.1.cells;have c1:(binOp .eql 133 (.pointer (some d.m)) (.pointer (some b.m))).run prog (w.alloc (.cells #[.pointer none,.pointer none] 135))=.ok (.bool false) (w.alloc (.cells #[.pointer none,.pointer none] 135)):=
  ze1 _ _ _ bd ((Sqj _ _ _ b8).trans ay) ((Sqj _ _ _ bz).trans N)
 obtain⟨q,u⟩:=Qzz (((w.alloc (.cells #[.pointer none,.pointer none] 135)).alloc (.cells #[.pointer (some d.m),.pointer (some l.m)] 135)).drew);have am:∀bl,(w.alloc bl).heap.size=(w:Nat)+1:=by intro bl;simp
 have bh:q.heap.size=(w:Nat)+2:=by rw[u];simp
 have a4:∀g,g<w.heap.size->q.heap[g]?=w.heap[g]?:=by
  intro g h;rw[u];show ((w.alloc _).alloc _).heap[g]?=_;rw[Sqj _ _ _ (by rw[am];omega),Sqj _ _ _ h]
 have bv:U (q.heap[w.heap.size]?=some (.cells #[.pointer none,.pointer none] 135 (0,0))):=V (by rw[u];show ((w.alloc _).alloc _).heap[w.heap.size]?=_;rw[Sqj _ _ _ Y];exact Ak _ _);have bw:U (q.heap[(w:Nat)+1]?=some (.cells #[.pointer (some d.m),.pointer (some l.m)] 135 (0,0))):=V (by rw[u,<-am (.cells #[.pointer none,.pointer none] 135)];exact Ak _ _);have ac:Ch q c A T cs m:=o.move (λg h=>a4 g (by rcases Sc.1 h with rfl|h;exact b0;exact p g h))
 have L:=ac.seg;rw[t,Eu q (P++[a]),Eu q (d::j)]at L;have bs:=V L.2.1;have al:(Ad ((P++[a])++b::k)).Nodup:=by
  rw[Dk,Sqd];exact⟨z.1,M.2.1,λg h ck ce=>z.2.2 g h ck (SV _ ce)⟩
 have ah:c∉Ad ((P++[a])++b::k):=by rw[Dk,Qbh,not_or];exact⟨E.1,E.2.2⟩
 have ax:=V (Rp c A T cs _ _ (P++[a]) (b::k) none none (hd ((d::j)++b::k) none) (A9 (d::j) (A9 (P++[a]) none)) q L.1 L.2.2 al ah ac.hdr (λo=>by simp at o) (λo=>by simp at o));rw[J5,if_neg (Y:¬(P++[a]=[])),if_neg (Y:¬(b::k=[]))]at ax;have D:Ad ((P++[a])++b::k)=Ad (P++[a])++Ad (b::k):=Dk _ _;have bt:U ((w:Nat)+1∉c::Ad ((P++[a])++b::k)):=V (λf=>by
  rw[D]at f;rcases Sc.1 f with f|f
  ·omega
  rcases Qbh.1 f with f|f
  ·have:=p _ (F _ f);omega
  have:=p _ (H _ f);omega)
 have a1:U (w.heap.size∉c::Ad ((P++[a])++b::k)):=V (λf=>by
  rw[D]at f;rcases Sc.1 f with f|f
  ·omega
  rcases Qbh.1 f with f|f
  ·have:=p _ (F _ f);omega
  have:=p _ (H _ f);omega)
 have br:U (∀e∈d::j,e.m<q):=V (λe R=>by have:=p e.m (G _ (List.mem_map.2 ⟨e,R,rfl⟩));omega);have ai:U (∀g∈Ad (d::j),g∉Ad ((P++[a])++b::k)/\g≠c):=V (λg h=>⟨λf=>by
  rw[D]at f;rcases Qbh.1 f with f|f
  ·exact z.2.2 g f g (SH _ h) rfl
  exact M.2.2 g h g f rfl,λe=>E.2.1 (e▸h)⟩)
 have b3:U (hd m none=hd ((P++[a])++b::k) none):=V (by rw[t,Mq,Mq];cases P<;>rfl);have b5:U (A9 m none=A9 ((P++[a])++b::k) none):=V (by rw[t,Le (P++[a]),Le (d::j),Le (P++[a])];rfl);have Q:=V C;have bi:=V bh;have cd:=V u;have bg:=V M.1;have ca:=V al;have b1:=V ah;have a9:=V G;have b6:=V p;have b4:U (∀g∈c::Ad ((P++[a])++b::k),g∈c::Ad m\/w.heap.size<=g):=V (λg h=>by
  rw[D]at h;rcases Sc.1 h with h|h
  ·exact .inl (by rw[h];exact Qx)
  rcases Qbh.1 h with h|h
  ·exact .inl (Qo _ (F _ h))
  exact .inl (Qo _ (H _ h)))
 have b2:U (Fr (c::Ad m) w q):=V (by rw[u];exact(((Fr.refl _ w).alloc _).alloc _).drew);have bk:=V ao;have bf:=V aa;have bu:U (P++a::b::k=(P++[a])++b::k):=V Y;rw[bb];clear am bh a4 p ac ak z M E L u C bb bc ba K aw N ay a2 F G H ao aa ag a3 t y D af o bd al ah;go_enter func238,ntmps238;go_wp2_with fail
 go_region
 all_goals go_wp2_with fail
 rw[<-cd.q];apply ax.m;rintro ct aq⟨rfl,ab,W,s,bj⟩;have ae:=(s.block ((w:Nat)+1) (by have:=bi.q;omega) bt.q).trans bw.q;have r:=(s.block w (by have:=bi.q;omega) a1.q).trans bv.q;have c8:=X ae 0 _ rfl;have z:=X ae 1 _ rfl;have x:=bs.q.move (λe R=>s.block e.m (br.q e R) (λf=>by
  have:=ai.q e.m (List.mem_map.2 ⟨e,R,rfl⟩);rcases Sc.1 f with f|f
  ·exact this.2 f
  exact this.1 f))
 obtain⟨ch,c6,aj⟩:=x.get d Y;obtain⟨dc,cn,an⟩:=x.get l (by rw[Q.q];simp);have c5:aq.cell? (d.m 8)=some (.pointer ch):=X aj 8 _ rfl;have c7:=Av aj;have db:aq.cell? (l.m 9)=some (.pointer cn):=X an 9 _ rfl;have dd:=Av an;have c9:=X r 0 _ rfl;have bm:=X r 1 _ rfl;have da:=Av r;have bx:=V (And.intro ab (And.intro W (And.intro s (And.intro x (And.intro r bj)))));clear ab W s bj ae r x aj an;go_wp2_with fail
 go_region
 go_wp2;have cb:¬w.heap.size=d.m:=λe=>b7 e.symm;have cc:¬w.heap.size=l.m:=λe=>cf e.symm;obtain⟨ab,W,s,x,r,c4⟩:=bx.q;have b9:d.m∉Ad j:=(List.nodup_cons.1 (show (d.m::Ad j).Nodup from bg.q)).1;have cg:l.m∉Ad bp:=by
  have h:=bg.q;rw[Q.q,Dk]at h;intro f;exact(Sqd.1 h).2.2 l.m f l.m (by simp[Ad]) rfl
 have bq:Seg aq _ (d::j) _:=x;have au:=bq.Xg b9 none;rw[Q.q]at au;have av:=au.Y2 cg none;rw[<-Q.q]at av;have a7:=ai.q _ bk.q;have a6:=ai.q _ bf.q;have az:w.heap.size∉Ad (d::j):=λf=>by have:=b6.q _ (a9.q _ f);omega
 have a0:w.heap.size∉Ad ((P++[a])++b::k):=λf=>a1.q (Qo _ f);have ci:=((ab.Di (d.m 8) a6.1 (.pointer none)).Di (l.m 9) a7.1 (.pointer none));have cj:=((W.other (d.m 8) a6.2 (.pointer none)).other (l.m 9) a7.2 (.pointer none));have bm:=Di (Di r (d.m 8) cb (.pointer none)) (l.m 9) cc (.pointer none);have bn:=Aj (Aj (cs:=[.pointer none,.pointer none]) bm 0 (.pointer (some d.m))) 1 (.pointer (some l.m));have cl:=X bn 0 _ rfl;have cm:=X bn 1 _ rfl;refine Sqk (v:=.agg #[.pointer (some d.m),.pointer (some l.m)]) (by simp[results,results238,go_sem,cl,cm]) rfl ⟨rfl,?_,?_,?_⟩
 ·rw[bu.q];refine⟨?_,?_,ca.q,b1.q⟩;·exact((ci.Di w a0 _).Di (w 1) a0 _).move (λ_ _=>rfl)
  rw[<-b3.q,<-b5.q];exact(cj.other w (λe=>a5 e.symm) _).other (w 1) (λe=>a5 e.symm) _
 ·exact((av.Di w az _).Di (w 1) az _).move (λ_ _=>rfl)
 have a8:∀g∈Ad (d::j),g∈c::Ad m:=λg h=>Qo _ (a9.q g h);exact(((((b2.q.trans s b4.q).setCell (d.m 8) (.inl (a8 _ bf.q)) _).setCell (l.m 9) (.inl (a8 _ bk.q)) _).setCell w (.inr (Qc _)) _).setCell (w 1) (.inr (Qc _)) _).drew
def D8:Nat->List Pt->List Pt
 |0,_=>[]
 |_+1,[]=>[]
 |f+1,a::d=>if a.kind=8 then (if a.text=[]then D8 f d else match d with
   |[]=>[a]
   |q::g=>if q.kind=8 then D8 f (q.Au (a.text++q.text)::g)else a::D8 f (q::g))else a::D8 f d
def F7 (l:List Pt):List Pt:=D8 l.length l
def txt (l:List Pt):Nat:=(l.map (λa=>a.text.length)).sum
theorem XL (a:Nat)(p:Pt)(r:List Pt)(d:¬p.kind=8):D8 (a+1) (p::r)=p::D8 a r:=by simp only[D8];rw[if_neg d]
theorem zgm (a:Nat)(p:Pt)(r:List Pt)(d:p.kind=8)(f:p.text=[]):D8 (a+1) (p::r)=D8 a r:=by simp only[D8];rw[if_pos d,if_pos f]
theorem ziy (a:Nat)(p:Pt)(d:p.kind=8)(f:¬p.text=[]):D8 (a+1) [p]=[p]:=by simp only[D8];rw[if_pos d,if_neg f]
theorem zd9 (d:Nat)(p a:Pt)(r:List Pt)(f:p.kind=8)(h:¬p.text=[])(g:a.kind=8):D8 (d+1) (p::a::r)=D8 d (a.Au (p.text++a.text)::r):=by
 simp only[D8];rw[if_pos f,if_neg h,if_pos g]
theorem zcg (d:Nat)(p a:Pt)(r:List Pt)(f:p.kind=8)(h:¬p.text=[])(g:¬a.kind=8):D8 (d+1) (p::a::r)=p::D8 d (a::r):=by
 simp only[D8];rw[if_pos f,if_neg h,if_neg g]
def Mem.Au (e:Mem)(t:List UInt8):Mem:={ e with p:=e.p.Au t }
theorem Seg.V9 {w:Sw}{P d:List Mem}{e:Mem}{g h:So}(a:Seg w g (P++e::d) h)(j:(Ad (P++e::d)).Nodup)(t:List UInt8):Seg (w.setCell (e.m 2) (.string (S.B t))) g (P++e.Au t::d) h:=by
 rw[Jf]at j;have f:=UR j;rw[Qbh,not_or]at f;rw[Eu]at a ⊢;refine⟨a.1.Di _ f.2.1 _,?_,a.2.2.Di _ f.2.2 _⟩;exact Aj a.2.1 2 (.string (S.B t))
theorem Ch.V9 {w:Sw}{c g T:Nat}{cs:List Value}{P a:List Mem}{e:Mem}(d:Ch w c g T cs (P++e::a))(t:List UInt8):Ch (w.setCell (e.m 2) (.string (S.B t))) c g T cs (P++e.Au t::a):=by
 have f:Ad (P++e.Au t::a)=Ad (P++e::a):=by rw[Jf,Jf];rfl
 have k:e.m≠c:=λl=>d.q (by rw[Jf,<-l];simp);refine⟨d.seg.V9 d.nodup t,?_,by rw[f];exact d.nodup,by rw[f];exact d.q⟩;have h:hd (P++e.Au t::a) none=hd (P++e::a) none:=by rw[Mq,Mq];rfl
 have j:A9 (P++e.Au t::a) none=A9 (P++e::a) none:=by rw[Le,Le];rfl
 rw[h,j];exact d.hdr.other _ k _
def From (d l:List Mem):Prop:=∀a∈d,∃e∈l,a.m=e.m/\a.kf=e.kf/\a.p.Ab=e.p.Ab
theorem From.refl (l:List Mem):From l l:=λe a=>⟨e,a,rfl,rfl,rfl⟩
theorem From.trans {a b c:List Mem}(g:From a b)(k:From b c):From a c:=λe o=>by
 obtain⟨d,h,j,l,m⟩:=g e o;obtain⟨f,p,q,r,s⟩:=k d h;exact⟨f,p,j.trans q,l.trans r,m.trans s⟩
theorem From.Ad {a b:List Mem}(g:From a b):∀d∈Ad a,d∈Ad b:=λd l=>by
 obtain⟨e,k,rfl⟩:=List.mem_map.1 l;obtain⟨f,h,j,_⟩:=g e k;rw[j];exact List.mem_map.2 ⟨f,h,rfl⟩
structure Rs (c o T:Nat)(cs:List Value)(l:List Mem)(w:Sw)(pre suf:List Mem)(wr:Sw):Prop where
 ch:Ch wr c o T cs (pre++suf)
 spec:F7 (l.map Mem.p)=pre.map Mem.p++D8 suf.length (suf.map Mem.p)
 frm:From (pre++suf) l
 bytes:txt (suf.map Mem.p)<=1000000
 fr:Fr (c::Ad l) w wr
theorem Wq (c k T:Nat)(cs:List Value)(l:List Mem)(w:Sw)(y:Ch w c k T cs l)(ae:txt (l.map Mem.p)<=1000000):Calls prog 164 #[.pointer (some (c k))] w λe j=>∃R,e=.returned (.tuple #[])/\Ch j c k T cs R/\U (R.map Mem.p=F7 (l.map Mem.p))/\From R l/\Fr (c::Ad l) w j:=by
 have ai:=V (U3 c k (.pointer (hd l none)) w y.hdr.Ro ⟨_,rfl⟩);have aq:U (Rs c k T cs l w [] l w):=V ⟨y,by simp[F7],From.refl _,ae,Fr.refl _ _⟩;clear y ae;go_enter func164,ntmps164;go_wp2_with fail
 apply ai.m;rintro e j⟨rfl,rfl⟩;go_wp2;go_loopg [2,3] l.length (λar av _ wr=>∃h A,ar=A.length/\av=.pointer (hd A none)/\Rs c k T cs l w h A wr)
 case atStart=>exact⟨[],l,rfl,rfl,aq.q⟩
 case round=>
  obtain⟨h,A,rfl,rfl,z⟩:=hrel;cases A with
  |nil=>
   have o:=V z;clear z;rw[show hd ([]:List Mem) none=none from rfl];go_wp2;go_end0;have d:=o.q;refine⟨h,rfl,by simpa using d.ch,V ?_,by simpa using d.frm,d.fr⟩;have:=d.spec;rw[this];simp[D8]
  |cons e f=>
   have o:=V z;have u:=z.ch.seg;rw[Eu]at u;have D:=u.2.cells;have ah:wr.cell? e.m=some (.int .i64 e.p.kind):=X D 0 _ rfl;have L:wr.cell? (e.m 2)=some (.string (S.B e.p.text)):=X D 2 _ rfl;have t:=V (Oz e.m (.pointer (hd f none)) wr (X D 9 _ rfl) ⟨_,rfl⟩);have ac:=V (λ(r:Sw) (W aa:List Mem) (ab:Mem) (y:Ch r c k T cs (W++ab::aa))=>zh2 c k T cs W aa ab r y);have K:U (h++e::f=(h++[e])++f):=V Y;clear z u D;rw[show hd (e::f) none=some (e.m:Addr) from rfl];by_cases v:e.p.kind=8
   ·have H:=V v;rw[v]at ah;clear v;by_cases p:e.p.text=[]
    ·have q:U (∀j,Ch j c k T cs (h++f)->Fr (c::Ad (h++e::f)) wr j->Rs c k T cs l w h f j):=V (λj N P=>by
      have d:=o.q;have Q:From (h++f) (h++e::f):=λm g=>⟨m,by rcases Qbh.1 g with g|g;exact SH _ g;exact SV _ (Qo _ g),rfl,rfl,rfl⟩
      refine⟨N,?_,Q.trans d.frm,?_,d.fr.trans P (λm g=>.inl ?_)⟩;·rw[d.spec];simp only[Qs,Qd];rw[zgm _ _ _ H.q p]
      ·have:=d.bytes;simp only[txt,Qs,List.sum_cons]at this ⊢;omega
      rcases Sc.1 g with g|g
      ·rw[g];exact Qx
      exact Qo _ (d.frm.Ad m g))
     rw[p]at L;have ax:wr.cell? (e.m 2)=some (.string ⟨#[]⟩):=L;have M:=V (ac.q wr h f e o.q.ch);clear L p;go_wp2_with (first|(go_at_call 110;apply t.m;rintro s j⟨rfl,rfl⟩)|(go_at_call 209;apply M.m;rintro s aw⟨rfl,F,G,ag⟩))
     go_roundg f.length
     case rel=>exact⟨h,f,rfl,rfl,q.q _ F G⟩
     case measure=>simp
    have af:0<(S.B e.p.text).size:=(by rw[S.Bc];exact Qbf.2 p);have a3:=S.Np _ af;have a2:=S.K9 _ af;cases f with
    |nil=>
     have q:U (Rs c k T cs l w (h++[e]) [] wr):=V (by
      have d:=o.q;refine⟨by simpa using d.ch,?_,by simpa using d.frm,by simp[txt],d.fr⟩;rw[d.spec];simp only[Qs,List.map_nil,Qd,Qi];rw[ziy _ _ H.q p];simp[D8])
     rw[show hd ([]:List Mem) none=none from rfl]at t;clear p;go_wp2_with (go_at_call 110;apply t.m;rintro s j⟨rfl,rfl⟩)
     go_roundg 0
     case rel=>exact⟨h++[e],[],rfl,rfl,q.q⟩
     case measure=>simp
    |cons a f=>
     have u:=o.q.ch.seg;rw[Eu]at u;have E:=u.2.2.cells;have au:wr.cell? a.m=some (.int .i64 a.p.kind):=X E 0 _ rfl;have a4:wr.cell? (a.m 2)=some (.string (S.B a.p.text)):=X E 2 _ rfl;have a5:=Av E;rw[show hd (a::f) none=some (a.m:Addr) from rfl]at t;clear u E;by_cases x:a.p.kind=8
     ·have ao:=V x;rw[x]at au;have al:U (S.B e.p.text++S.B a.p.text=S.B (e.p.text++a.p.text)):=V (by apply ByteArray.ext;simp[S.B]);have az:(S.B e.p.text).size+(S.B a.p.text).size<=1000000:=by
       have:=o.q.bytes;simp only[txt,Qs,List.sum_cons]at this;rw[S.Bc,S.Bc];omega
      have an:¬e.m=a.m:=by
       have:=o.q.ch.nodup;rw[Jf]at this;have C:=(List.nodup_cons.1 (Sqd.1 this).2.1).1;intro m;exact C (by rw[m];simp[Ad])
      have a0:¬a.m=e.m:=λm=>an m.symm;have am:U (∀r:Sw,r.heap=(wr.setCell (a.m 2) (.string (S.B (e.p.text++a.p.text)))).heap->Ch r c k T cs (h++e::(a.Au (e.p.text++a.p.text)::f))):=V (λr g=>by
       have d:=o.q.ch;rw[show h++e::a::f=(h++[e])++a::f by simp]at d;have C:=d.V9 (e.p.text++a.p.text);rw[show (h++[e])++a.Au (e.p.text++a.p.text)::f=h++e::(a.Au (e.p.text++a.p.text)::f) by simp]at C;exact C.move (λm _=>by rw[g]))
      have q:U (∀j,Ch j c k T cs (h++a.Au (e.p.text++a.p.text)::f)->Fr (c::Ad (h++e::(a.Au (e.p.text++a.p.text)::f))) (wr.setCell (a.m 2) (.string (S.B (e.p.text++a.p.text)))).drew j->Rs c k T cs l w h (a.Au (e.p.text++a.p.text)::f) j):=V (λj N P=>by
       have d:=o.q;have ak:Ad (h++e::(a.Au (e.p.text++a.p.text)::f))=Ad (h++e::a::f):=(by simp[Ad,Mem.Au]);have Q:From (h++a.Au (e.p.text++a.p.text)::f) (h++e::a::f):=λm g=>by
        rcases Qbh.1 g with g|g
        ·exact⟨m,SH _ g,rfl,rfl,rfl⟩
        rcases Sc.1 g with g|g
        ·exact⟨a,Y,by rw[g];rfl,by rw[g];rfl,by rw[g];rfl⟩
        exact⟨m,by simp[g],rfl,rfl,rfl⟩
       refine⟨N,?_,Q.trans d.frm,?_,?_⟩;·rw[d.spec];simp only[Qs,Qd];rw[zd9 _ _ _ _ H.q p ao.q];rfl
       ·have:=d.bytes;have s:(a.Au (e.p.text++a.p.text)).p.text=e.p.text++a.p.text:=rfl;simp only[txt,Qs,List.sum_cons,s,Qa]at this ⊢;omega
       have ap:a.m∈c::Ad l:=Qo _ (d.frm.Ad a.m (by simp[Ad]));refine((d.fr.setCell (a.m 2) (.inl ap) _).drew).trans P (λm g=>.inl ?_);rw[ak]at g;rcases Sc.1 g with g|g
       ·rw[g];exact Qx
       exact Qo _ (d.frm.Ad m g))
      have M:=V (λr g=>ac.q r h (a.Au (e.p.text++a.p.text)::f) e (am.q r g));clear x p;go_wp2_with (go_at_call 110;apply t.m;rintro s j⟨rfl,rfl⟩)
      go_region
      go_wp2_with (fail);rw[al.q];refine(M.q (wr.setCell (a.m 2) (.string (S.B (e.p.text++a.p.text)))).drew rfl).mono ?_;rintro s aw⟨rfl,F,G,ag⟩;have aj:=V (q.q _ F G);clear F G ag;go_wp2;go_roundg (f.length+1)
      case rel=>exact⟨h,a.Au (e.p.text++a.p.text)::f,rfl,rfl,aj.q⟩
      case measure=>simp
     have a1:(a.p.kind == 8)=false:=(by rw[Qe];exact x);have q:U (Rs c k T cs l w (h++[e]) (a::f) wr):=V (by
      have d:=o.q;refine⟨by rw[<-K.q];exact d.ch,?_,by rw[<-K.q];exact d.frm,?_,d.fr⟩;·rw[d.spec];simp only[Qs,Qd];rw[zcg _ _ _ _ H.q p x];simp
      have:=d.bytes;simp only[txt,Qs,List.sum_cons]at this ⊢;omega)
     clear x p;go_wp2_with (go_at_call 110;apply t.m;rintro s j⟨rfl,rfl⟩)
     go_roundg (f.length+1)
     case rel=>exact⟨h++[e],a::f,rfl,rfl,q.q⟩
     case measure=>simp
   have ay:(e.p.kind == 8)=false:=by rw[Qe];exact v
   have q:U (Rs c k T cs l w (h++[e]) f wr):=V (by
    have d:=o.q;refine⟨by rw[<-K.q];exact d.ch,?_,by rw[<-K.q];exact d.frm,?_,d.fr⟩;·rw[d.spec];simp only[Qs,Qd];rw[XL _ _ _ v];simp
    have:=d.bytes;simp only[txt,Qs,List.sum_cons]at this ⊢;omega)
   clear v;go_wp2_with (go_at_call 110;apply t.m;rintro s j⟨rfl,rfl⟩)
   go_roundg f.length
   case rel=>exact⟨h++[e],f,rfl,rfl,q.q⟩
   case measure=>simp
def opens (s p:Pt):Bool:=p.ro&&(!p.text.isEmpty&&(decide (p.text.head?=s.text.head?)&&S.fits p.rs p.rc s.rs s.ro))
theorem RH (t:List UInt8)(a:0<(S.B t).size):t.head?=some (S.B t)[0]:=by
 have:=S.Bz (S.B t) 0 a;rw[S.Bq]at this;rw[List.head?_eq_getElem?];exact this
structure Bk (wr:Sw) where
 w:World
 h:Below wr wr w
theorem I6 {P:Program}{o:Nat}{g:Exit->Act->World->Prop}{a:Act}{w:Sw}{l:List Oper}(m:P.follows .mixedOrders=true)(k:Region.lexB .any l.toArray=true)
  (j:wpQuiet P l.toArray (λd=>∃f:Bk w,d=f.w) (λh=>∀d,(∃f:Bk w,d=f.w)->g .normal h d) l a):(Code.region o l.toArray true).wp P g a w:=
 wp_region_quiet (C:=λd=>∃f:Bk w,d=f.w) m k ⟨⟨w.drew,Sr.drew⟩,rfl⟩ (by simpa using j)
theorem zlw (L K:List Mem)(s:Mem)(w:Sw)(k:Seg w none (L++s::K) none)(aq:s.p.text≠[])(ab:∀a∈L++s::K,a.p.rs<=1000000):Calls prog 207 #[.pointer (some s.m)] w λe j=>∃al,e=.returned (.pointer al)/\Below w w j/\U ((al=none/\∀a∈L,opens s.p a.p=false)\/∃au a f,L=au++a::f/\al=some a.ad/\opens s.p a.p=true/\∀C∈f,opens s.p C.p=false):=by
 have W:∀a∈L++s::K,a.m<w:=λa ag=>k.lt a ag;have ac:=(Eu _ _ _ _ _).1 k;have R:=ac.2.cells;have av:=V (VI s.m (A9 L none) w (X R 8 _ rfl));have aw:=V R;have a1:=V ac.1;have ay:=V W;have a0:=V ab;have a2:s.m<w:=W s Y;have a4:0<(S.B s.p.text).size:=by rw[S.Bc];exact Qbf.2 aq
 have ao:=RH s.p.text a4;have ax:=V ao;have a3:s.p.rs<=1000000:=ab s Y;clear k W ac R aq ab ao;go_enter func207,ntmps207;go_wp2_with fail
 apply av.m;rintro e j⟨rfl,rfl⟩;go_wp2;go_loopg [3] L.length (λd a7 wr=>∃q f,L=q++f/\d=q.length/\a7=.pointer (A9 q none)/\(∀a∈f,opens s.p a.p=false)/\Below w w wr)
 case atStart=>exact⟨L,[],Y,rfl,rfl,Y,Sr⟩
 case round=>
  obtain⟨q,f,v,rfl,rfl,P,r⟩:=hrel;have h:=V r;have Q:=V P;have an:=V v;have ak:w<=wr.heap.size:=r.size;by_cases N:q=[]
  ·subst N;clear r P v;rw[show A9 ([]:List Mem) none=none from rfl];go_wp2;go_ret;exact⟨none,rfl,h.q,V (.inl ⟨rfl,by rw[an.q];exact Q.q⟩)⟩
  obtain⟨g,a,rfl⟩:=Vl q N;have ah:a∈L:=by rw[v];simp
  have ar:a.m<w:=ay.q a (SH _ ah);have T:w.heap[a.m]?=some (.cells (Jc a (A9 g none) (hd f (some s.ad))).toArray 179 (0,0)):=by
   have D:=a1.q;rw[v,Eu,Eu]at D;exact D.1.2.cells
  have z:=(r.block a.m ar).trans T;have y:=(r.block s.m a2).trans aw.q;have H:wr.cell? ⟨a.m,2,none⟩=some (.string (S.B a.p.text)):=X z 2 _ rfl;have bb:wr.cell? ⟨a.m,5,none⟩=some (.int .i64 (a.p.rs:Nat)):=X z 5 _ rfl;have am:wr.cell? ⟨a.m,6,none⟩=some (.bool a.p.ro):=X z 6 _ rfl;have bc:wr.cell? ⟨a.m,7,none⟩=some (.bool a.p.rc):=X z 7 _ rfl;have a6:wr.cell? (s.m 2)=some (.string (S.B s.p.text)):=X y 2 _ rfl;have a8:wr.cell? (s.m 5)=some (.int .i64 (s.p.rs:Nat)):=X y 5 _ rfl;have a9:wr.cell? (s.m 6)=some (.bool s.p.ro):=X y 6 _ rfl;have ba:wr.cell? (s.m 7)=some (.bool s.p.rc):=X y 7 _ rfl;have E:=V (λ(G:Sw) (ag:Below w w G)=>VI a.m (A9 g none) G (X ((ag.block a.m ar).trans T) 8 _ rfl));have a5:a.p.rs<=1000000:=a0.q a (SH _ ah);have A:=V (λ(G:Sw)=>zlg a.p.rs s.p.rs a.p.ro a.p.rc s.p.ro s.p.rc G a5 a3);have F:U (opens s.p a.p=false->∀C∈a::f,opens s.p C.p=false):=V (λD C aj=>by
   rcases Sc.1 aj with rfl|aj
   ·exact D
   exact Q.q C aj)
  have x:U (L=g++a::f):=V (by rw[an.q];simp);rw[J5,show (some a.ad:So)=some (⟨a.m,0,none⟩:Addr) from rfl];clear r P v T z y N ah;cases m:a.p.ro
  ·have l:U (opens s.p a.p=false):=V (by unfold opens;rw[m];rfl);rw[m]at am;clear m;go_wp2_with (fail);go_quiet (fail)
   go_wp2_with (fail);refine(E.q _ (below_drewN h.q _)).mono ?_;rintro M j⟨rfl,rfl⟩;go_wp2;go_roundg g.length
   case rel=>exact⟨g,a::f,x.q,rfl,rfl,F.q l.q,below_drewN h.q _⟩
   case measure=>simp
  rw[m]at am A;by_cases u:a.p.text=[]
  ·have l:U (opens s.p a.p=false):=V (by unfold opens;rw[u];simp);rw[u]at H;have bp:wr.cell? ⟨a.m,2,none⟩=some (.string ⟨#[]⟩):=H;clear m H u;go_wp2_with (fail);go_quiet (fail)
   go_wp2_with (fail);refine(E.q _ (below_drewN h.q _)).mono ?_;rintro M j⟨rfl,rfl⟩;go_wp2;go_roundg g.length
   case rel=>exact⟨g,a::f,x.q,rfl,rfl,F.q l.q,below_drewN h.q _⟩
   case measure=>simp
  have ai:0<(S.B a.p.text).size:=by rw[S.Bc];exact Qbf.2 u
  have ap:=RH a.p.text ai;have bo:=S.Np _ ai;have bn:=S.K9 _ ai;have aa:U (opens s.p a.p=(decide ((S.B a.p.text)[0]=(S.B s.p.text)[0])&&S.fits a.p.rs a.p.rc s.p.rs s.p.ro)):=V (by
   unfold opens;rw[m,ap,ax.q];have:a.p.text.isEmpty=false:=by simpa using u
   rw[this];simp)
  clear u ap;by_cases o:(S.B a.p.text)[0]=(S.B s.p.text)[0]
  ·have az:((((S.B a.p.text)[0].toNat:Nat):Int) == (((S.B s.p.text)[0].toNat:Nat):Int))=true:=by
    rw[o,Sqb]
   haveI bm:Nonempty (Bk wr):=⟨⟨wr,Sr⟩⟩;have bi:∀d:Bk wr,d.w.cell? ⟨a.m,2,none⟩=some (.string (S.B a.p.text)):=λd=>(d.h.cell (p:=⟨a.m,2,none⟩) (by show a.m<_;omega)).trans H;have bj:∀d:Bk wr,d.w.cell? ⟨a.m,5,none⟩=some (.int .i64 (a.p.rs:Nat)):=λd=>(d.h.cell (p:=⟨a.m,5,none⟩) (by show a.m<_;omega)).trans bb;have bk:∀d:Bk wr,d.w.cell? ⟨a.m,6,none⟩=some (.bool true):=λd=>(d.h.cell (p:=⟨a.m,6,none⟩) (by show a.m<_;omega)).trans am;have bl:∀d:Bk wr,d.w.cell? ⟨a.m,7,none⟩=some (.bool a.p.rc):=λd=>(d.h.cell (p:=⟨a.m,7,none⟩) (by show a.m<_;omega)).trans bc;have bd:∀d:Bk wr,d.w.cell? (s.m 2)=some (.string (S.B s.p.text)):=λd=>(d.h.cell (p:=⟨s.m,2,none⟩) (by show s.m<_;omega)).trans a6;have bf:∀d:Bk wr,d.w.cell? (s.m 5)=some (.int .i64 (s.p.rs:Nat)):=λd=>(d.h.cell (p:=⟨s.m,5,none⟩) (by show s.m<_;omega)).trans a8;have bg:∀d:Bk wr,d.w.cell? (s.m 6)=some (.bool s.p.ro):=λd=>(d.h.cell (p:=⟨s.m,6,none⟩) (by show s.m<_;omega)).trans a9;have bh:∀d:Bk wr,d.w.cell? (s.m 7)=some (.bool s.p.rc):=λd=>(d.h.cell (p:=⟨s.m,7,none⟩) (by show s.m<_;omega)).trans ba;cases t:S.fits a.p.rs a.p.rc s.p.rs s.p.ro
   ·have l:U (opens s.p a.p=false):=V (by rw[aa.q,t,Bool.and_false]);rw[t]at A;clear o m t;go_wp2_with (fail);refine I6 Sk Sk ?_;repeat (go_big_quiet_step ((rename_i kk;exact(A.q kk.w).mono (λe j k=>⟨k.1,⟨j,kk.h.trans (k.2.mono kk.h.size)⟩,rfl⟩))))
    refine wpQuiet_nil ?_;intro _ ae;obtain⟨kq,af⟩:=ae;subst af;go_wp2_with (fail);refine(E.q _ (h.q.trans (kq.h.mono ak))).mono ?_;rintro M j⟨rfl,rfl⟩;go_wp2;go_roundg g.length
    case rel=>exact⟨g,a::f,x.q,rfl,rfl,F.q l.q,h.q.trans (kq.h.mono ak)⟩
    case measure=>simp
   have l:U (opens s.p a.p=true):=V (by rw[aa.q,t,Sl o];rfl);rw[t]at A;clear o m t;go_wp2_with (fail);refine I6 Sk Sk ?_;repeat (go_big_quiet_step ((rename_i kk;exact(A.q kk.w).mono (λe j k=>⟨k.1,⟨j,kk.h.trans (k.2.mono kk.h.size)⟩,rfl⟩))))
   refine wpQuiet_nil ?_;intro _ ae;obtain⟨kq,af⟩:=ae;subst af;go_wp2;go_ret;exact⟨some a.ad,rfl,h.q.trans (kq.h.mono ak),V (.inr ⟨g,a,f,x.q,rfl,l.q,Q.q⟩)⟩
  have l:U (opens s.p a.p=false):=V (by rw[aa.q,Si o];rfl);have az:((((S.B a.p.text)[0].toNat:Nat):Int) == (((S.B s.p.text)[0].toNat:Nat):Int))=false:=by
   rw[Qe];intro e;exact o (Qk.1 Z)
  clear o m;go_wp2_with fail
  go_quiet (fail)
  go_wp2_with fail
  refine(E.q _ (below_drewN h.q _)).mono ?_;rintro M j⟨rfl,rfl⟩;go_wp2;go_roundg g.length
  case rel=>exact⟨g,a::f,x.q,rfl,rfl,F.q l.q,below_drewN h.q _⟩
  case measure=>simp
theorem zht (c h T:Nat)(cs:List Value)(P d g:List Mem)(a b:Mem)(w:Sw)(f:Ch w c h T cs (P++a::(d++b::g))):Calls prog 238 #[.pointer (some (c h)),.pointer (some a.m),.pointer (some b.m)] w λe j=>e=.returned (.agg #[.pointer (hd d none),.pointer (A9 d none)])/\Ch j c h T cs (P++a::b::g)/\Seg j none d none/\Fr (c::Ad (P++a::(d++b::g))) w j:=by
 cases d with
 |nil=>
  have m:=f.seg;rw[Eu]at m;refine(MV c h a (b::g) w (X m.2.cells 9 _ rfl) (f.mlt a.m (by simp[Ad]))).mono ?_;rintro e j⟨rfl,l⟩;refine⟨rfl,f.move (λo k=>l.block o (by rcases Sc.1 k with rfl|k;exact f.lt;exact f.mlt o k)),trivial,Fr.Ra l⟩
 |cons s d=>
  refine(zm9 c h T cs P d g a s b w f).mono ?_;rintro e j⟨rfl,p,q,r⟩;exact⟨rfl,p,q,r⟩
theorem Zz {w:Sw}{A:Nat->Prop}{l:List Mem}{a:So}(g:Seg w a l none)(h:∀e∈l,A e.m)(j:∀e∈l,Ce w A e.kf e.p.Ab):Ce w A (hd l none) (l.map Mem.p):=by
 induction l generalizing a with
 |nil=>exact .nil
 |cons e k m=>exact .cons e a (hd k none) (k.map Mem.p) (h e Y) g.1 (j e Y) (m g.2 (λf d=>h f (by simp[d])) (λf d=>j f (by simp[d])))
def Kd (w:Sw)(A:Nat->Prop)(l:List Mem):Prop:=∀e∈l,Ce w A e.kf e.p.Ab
def Cm (a b:Pt):Nat:=if 1<a.text.length/\1<b.text.length then 2 else 1
def La (z:Nat)(m:List Pt):Pt:=.mk (if z=2 then 15 else 14) [] [] (F7 m) 0 false false
theorem JC (t:List UInt8)(z:Nat):(S.B t).extract z (S.B t).size=S.B (t.drop z):=by
 rw[<-S.El ((S.B t).extract z (S.B t).size),S.Iw,S.Bq]
structure FT (c o T:Nat)(cs:List Value)(P M Q:List Mem)(a b:Mem)(z:Nat)(A:Nat->Prop)(w:Sw)(n:Mem)(w':Sw):Prop where
 ch:Ch w' c o T cs (P++a.Au (a.p.text.drop z)::n::b.Au (b.p.text.drop z)::Q)
 part:n.p=La z (M.map Mem.p)
 new:w<=n.m
 Ab:Kd w' (λx=>A x\/x∈Ad M) (P++a.Au (a.p.text.drop z)::n::b.Au (b.p.text.drop z)::Q)
 fr:Fr (c::Ad (P++a::(M++b::Q))) w w'
theorem MH (e:Mem)(r:List Mem):Ad (e::r)=e.m::Ad r:=rfl
theorem Wn {w:Sw}{c s T:Nat}{cs:List Value}{P j h:List Mem}{a b:Mem}{ta tb:List UInt8}(k:Ch w c s T cs (P++a::(j++b::h)))(f:Nat)(g:f∈Ad j):¬f∈c::Ad (P++a.Au ta::b.Au tb::h):=λd=>by
 have l:=k.q;have m:=k.nodup;rw[Jf,Dk,MH]at l m;have r:f=c\/f∈Ad P\/f=a.m\/f=b.m\/f∈Ad h:=by
  rcases Sc.1 d with d|d
  ·exact .inl d
  rw[Jf,MH]at d;simp only[Qbh,List.mem_cons]at d;rcases d with d|d|d|d
  ·exact .inr (.inl d)
  ·exact .inr (.inr (.inl d))
  ·exact .inr (.inr (.inr (.inl d)))
  exact .inr (.inr (.inr (.inr d)))
 have o:=Sqd.1 m;have p:=List.nodup_cons.1 o.2.1;have q:=Sqd.1 p.2;rcases r with e|e|e|e|e
 ·exact l (by rw[<-e];simp[g])
 ·exact o.2.2 f e f (by simp[g]) rfl
 ·exact p.1 (by rw[<-e];simp[g])
 ·exact q.2.2 f g b.m Y e
 exact q.2.2 f g f (by simp[e]) rfl
theorem CX {c u T N:Nat}{cs:List Value}{P g h l:List Mem}{a b:Mem}{z:Nat}{A:Nat->Prop}{w w2 v k o:Sw}{s kl:So}
  (y:Ch w c u T cs (P++a::(g++b::h))) (H:Kd w A (P++a::(g++b::h))) (m:∀d,A d->d<w.heap.size/\d∉c::Ad (P++a::(g++b::h)))
  (p:w2=(w.setCell (a.m 2) (.string (S.B (a.p.text.drop z)))).setCell (b.m 2) (.string (S.B (b.p.text.drop z))))
  (x:Fr (c::Ad (P++a.Au (a.p.text.drop z)::(g++b.Au (b.p.text.drop z)::h))) w2 v) (am:N=v.heap.size) (K:Fr (N::Ad g) v k) (G:From l g) (ai:Seg k none l none) (ah:l.map Mem.p=F7 (g.map Mem.p))
  (t:Fr (c::Ad (P++a.Au (a.p.text.drop z)::b.Au (b.p.text.drop z)::h)) k o) (ae:s=hd l none)
  (M:Ch o c u T cs (P++a.Au (a.p.text.drop z) :: ⟨(k:Nat)+1,.mk (if z=2 then 15 else 14) [] [] (F7 (g.map Mem.p)) 0 false false,s,kl⟩ :: b.Au (b.p.text.drop z)::h)) :
  FT c u T cs P g h a b z A w ⟨(k:Nat)+1,.mk (if z=2 then 15 else 14) [] [] (F7 (g.map Mem.p)) 0 false false,s,kl⟩ o:=by
 have ab:Ad (P++a.Au (a.p.text.drop z)::(g++b.Au (b.p.text.drop z)::h))=Ad (P++a::(g++b::h)):=by simp[Ad,Mem.Au]
 have ao:w2.heap.size=w.heap.size:=by rw[p];simp[World.setCell]
 have ac:Fr (c::Ad (P++a::(g++b::h))) w w2:=by
  rw[p];exact((Fr.refl _ w).setCell (a.m 2) (.inl (by simp[Ad])) _).setCell (b.m 2) (.inl (by simp[Ad])) _
 rw[ab]at x;have E:=ac.trans x (λd f=>.inl f);have R:∀d∈Ad g,d∈c::Ad (P++a::(g++b::h)):=λd f=>Qo _ (by rw[Jf,Dk];simp[f]);have q:Fr (c::Ad (P++a::(g++b::h))) w k:=E.trans K (λd f=>by
  rcases Sc.1 f with f|f
  ·have:=E.size;exact .inr Z
  exact .inl (R d f))
 have D:∀d∈c::Ad (P++a.Au (a.p.text.drop z)::b.Au (b.p.text.drop z)::h),d∈c::Ad (P++a::(g++b::h)):=λd f=>by
  simp[Ad,Mem.Au]at f ⊢;rcases f with f|f|f|f|f
  ·exact .inl f
  ·exact .inr (.inl f)
  ·exact .inr (.inr (.inl f))
  ·exact .inr (.inr (.inr (.inr (.inl f))))
  exact .inr (.inr (.inr (.inr (.inr f))))
 have F:=q.trans t (λd f=>.inl (D d f));have Q:∀e∈l,e.m∈Ad g:=λe j=>G.Ad e.m (List.mem_map.2 ⟨e,j,rfl⟩);have W:∀d∈Ad g,d<w:=λd f=>y.mlt d (by rw[Jf,Dk];simp[f]);have aa:∀d∈Ad g,d∉c::Ad (P++a.Au (a.p.text.drop z)::b.Au (b.p.text.drop z)::h):=λd f=>Wn y d f;have r:∀e,e∈P++a::(g++b::h)->Ce o (λd=>A d\/d∈Ad g) e.kf e.p.Ab:=λe j=>(H e j).move (λd f=>.inl f) (λd f=>F.block d (m d f).1 (m d f).2);have ag:∀e,e∈P++a::(g++b::h)->Ce k (λd=>A d\/d∈Ad g) e.kf e.p.Ab:=λe j=>(H e j).move (λd f=>.inl f) (λd f=>q.block d (m d f).1 (m d f).2);refine⟨M,rfl,by have:=q.size;show w.heap.size<=(k:Nat)+1;omega,?_,F⟩;intro e j;rcases Qbh.1 j with j|j
 ·exact r e (by simp[j])
 rcases Sc.1 j with rfl|j
 ·exact r a Y
 rcases Sc.1 j with rfl|j
 ·have C:Ce k (λd=>A d\/d∈Ad g) (hd l none) (l.map Mem.p):=Zz ai (λd f=>.inr (Q d f)) (λd f=>by
   obtain⟨ak,aj,al,p,L⟩:=G d f;rw[p,L];exact ag ak (by simp[aj]))
  rw[ah]at C;have:Ce o (λd=>A d\/d∈Ad g) (hd l none) (F7 (g.map Mem.p)):=C.move (λd f=>f) (λd f=>by
   have an:=q.size;rcases f with f|f
   ·exact t.block d (by have:=(m d f).1;omega) (λaf=>(m d f).2 (D d af))
   exact t.block d (by have:=W d f;omega) (aa d f))
  show Ce o _ s (F7 (g.map Mem.p));rw[ae];exact this
 rcases Sc.1 j with rfl|j
 ·exact r b Y
 exact r e (by simp[j])
theorem zb7 (c u T:Nat)(cs:List Value)(P d l:List Mem)(a b:Mem)(A:Nat->Prop)(w:Sw)(Q:Ch w c u T cs (P++a::(d++b::l)))(ay:a.p.text≠[])(a0:b.p.text≠[])(a8:txt (d.map Mem.p)<=1000000)(bm:a.p.text.length<=1000000)(bp:b.p.text.length<=1000000)(a3:Kd w A (P++a::(d++b::l)))(aw:∀f,A f->f<w.heap.size/\f∉c::Ad (P++a::(d++b::l))):Calls prog 208 #[.pointer (some (c u)),.pointer (some a.m),.pointer (some b.m)] w λe bg=>∃n,e=.returned (.tuple #[])/\FT c u T cs P d l a b (Cm a.p b.p) A w n bg:=by
 have a5:P++a::(d++b::l)=(P++a::d)++b::l:=Y;have aj:=Q.seg;have ak:=((Eu _ _ _ _ _).1 aj).2.cells;have R:∃bc,w.heap[b.m]?=some (.cells (Jc b bc (hd l none)).toArray 179 (0,0)):=by
  rw[a5]at aj;exact⟨_,((Eu _ _ _ _ _).1 aj).2.cells⟩
 obtain⟨bl,R⟩:=R;have bh:w.cell? (a.m 2)=some (.string (S.B a.p.text)):=X ak 2 _ rfl;have bj:w.cell? (b.m 2)=some (.string (S.B b.p.text)):=X R 2 _ rfl;have bi:=Av ak;have bk:=Av R;have bd:¬a.m=b.m:=by
  have:=Q.nodup;rw[Jf]at this;have ai:=(List.nodup_cons.1 (Sqd.1 this).2.1).1;intro f;exact ai (by rw[f];simp[Ad])
 have bo:¬b.m=a.m:=λf=>bd f.symm;have an:(S.B a.p.text).size=a.p.text.length:=S.Bc _;have ao:(S.B b.p.text).size=b.p.text.length:=S.Bc _;have bn:0<a.p.text.length:=Qbf.2 ay;have bq:0<b.p.text.length:=Qbf.2 a0;have a4:U (∀h,Ch ((w.setCell (a.m 2) (.string (S.B (a.p.text.drop h)))).setCell (b.m 2) (.string (S.B (b.p.text.drop h)))) c u T cs (P++a.Au (a.p.text.drop h)::(d++b.Au (b.p.text.drop h)::l))):=V (λh=>by
  have av:=Q.V9 (a.p.text.drop h);rw[show P++a.Au (a.p.text.drop h)::(d++b::l)=(P++a.Au (a.p.text.drop h)::d)++b::l by simp]at av;have ai:=av.V9 (b.p.text.drop h);rw[show (P++a.Au (a.p.text.drop h)::d)++b.Au (b.p.text.drop h)::l=P++a.Au (a.p.text.drop h)::(d++b.Au (b.p.text.drop h)::l) by simp]at ai;exact ai)
 have am:=V (λh=>zht c u T cs P d l (a.Au (a.p.text.drop h)) (b.Au (b.p.text.drop h)) _ (a4.q h));have ap:=V (λh=>JC a.p.text h);have aq:=V (λh=>JC b.p.text h);have y:=V Q;have ar:=V a3;have al:=V aw;have au:=V a8;clear aj ak R Q a3 aw a5 ay a0 a8 a4;by_cases ax:1<a.p.text.length
 ·by_cases az:1<b.p.text.length
  ·skip
   have ag:U (Cm a.p b.p=2):=V (by unfold Cm;rw[if_pos ⟨ax,az⟩]);have a2:(1:Int)<(a.p.text.length:Int):=Z;have bf:(1:Int)<(b.p.text.length:Int):=Z;go_enter func208,ntmps208;go_wp2_with (fail);rw[<-an,<-ao,ap.q 2,aq.q 2];refine(am.q 2).mono ?_;rintro C g⟨rfl,F,t,s⟩;have ab:U (∀v,Ch (g.alloc (.cells #[.pointer (hd d none),.pointer (A9 d none)] 135)) g 0 135 [v,v] d):=V (λv=>by
    have M:=y.q.nodup;rw[Jf,Dk]at M;have L:∀e∈d,e.m<g:=λe m=>t.lt e m;exact⟨t.move (λe m=>Sqj _ _ _ (L e m)),⟨Ak _ _,Y⟩,(Sqd.1 (List.nodup_cons.1 (Sqd.1 M).2.1).2).1,λj=>by
     obtain⟨e,m,a1⟩:=List.mem_map.1 j;have:=L e m;omega⟩)
   have aa:=V (Wq g 0 135 [undef,undef] d _ (ab.q undef) au.q);have r:=V F;have ac:=V s;have a6:w<=g.heap.size:=by have:=s.size;simpa [World.setCell]using this
   clear F t s;go_wp2_with (fail);apply aa.m;rintro C x⟨z,rfl,p,N,K,q⟩;have a9:=p.hdr.Ro;have ba:=p.hdr.cellL;have a7:(g:Nat)+1<=x.heap.size:=by have:=q.size;simpa using this
   have E:Ch x c u T cs (P++a.Au (a.p.text.drop 2)::b.Au (b.p.text.drop 2)::l):=r.q.move (λf k=>by
    have ae:f<g:=by rcases Sc.1 k with rfl|k;exact r.q.lt;exact r.q.mlt f k
    have af:f∉g.heap.size::Ad d:=λj=>by
     rcases Sc.1 j with j|j
     ·omega
     exact Wn y.q f j k
    rw[q.block f (by simp;omega) af,Sqj _ _ _ ae])
   have W:=V (FW c u T cs P (b.Au (b.p.text.drop 2)::l) (a.Au (a.p.text.drop 2)) (.mk (if (2:Nat)=2 then 15 else 14) [] [] (F7 (d.map Mem.p)) 0 false false) (hd z none) (A9 z none) x E)
   have o:=V (And.intro p.seg (And.intro N (And.intro K q)));clear p N K q E;go_wp2_with (fail);apply W.m;rintro C bb⟨rfl,G,H,ah⟩;have D:=V (And.intro G H);clear G H ah;go_wp2;go_end0;rw[ag.q];exact⟨_,rfl,CX y.q ar.q al.q rfl ac.q rfl (((Fr.refl _ g).alloc _).trans o.q.2.2.2 (λf k=>.inl k)) o.q.2.2.1 o.q.1 o.q.2.1.q D.q.2 rfl D.q.1⟩
  skip
  have ag:U (Cm a.p b.p=1):=V (by unfold Cm;rw[if_neg (λf=>az f.2)]);have a2:(1:Int)<(a.p.text.length:Int):=Z;have bf:¬(1:Int)<(b.p.text.length:Int):=Z;go_enter func208,ntmps208;go_wp2_with fail
  rw[<-an,<-ao,ap.q 1,aq.q 1];refine(am.q 1).mono ?_;rintro C g⟨rfl,F,t,s⟩;have ab:U (∀v,Ch (g.alloc (.cells #[.pointer (hd d none),.pointer (A9 d none)] 135)) g 0 135 [v,v] d):=V (λv=>by
   have M:=y.q.nodup;rw[Jf,Dk]at M;have L:∀e∈d,e.m<g:=λe m=>t.lt e m;exact⟨t.move (λe m=>Sqj _ _ _ (L e m)),⟨Ak _ _,Y⟩,(Sqd.1 (List.nodup_cons.1 (Sqd.1 M).2.1).2).1,λj=>by
    obtain⟨e,m,a1⟩:=List.mem_map.1 j;have:=L e m;omega⟩)
  have aa:=V (Wq g 0 135 [undef,undef] d _ (ab.q undef) au.q);have r:=V F;have ac:=V s;have a6:w<=g.heap.size:=by have:=s.size;simpa [World.setCell]using this
  clear F t s;go_wp2_with fail
  apply aa.m;rintro C x⟨z,rfl,p,N,K,q⟩;have a9:=p.hdr.Ro;have ba:=p.hdr.cellL;have a7:(g:Nat)+1<=x.heap.size:=by have:=q.size;simpa using this
  have E:Ch x c u T cs (P++a.Au (a.p.text.drop 1)::b.Au (b.p.text.drop 1)::l):=r.q.move (λf k=>by
   have ae:f<g:=by rcases Sc.1 k with rfl|k;exact r.q.lt;exact r.q.mlt f k
   have af:f∉g.heap.size::Ad d:=λj=>by
    rcases Sc.1 j with j|j
    ·omega
    exact Wn y.q f j k
   rw[q.block f (by simp;omega) af,Sqj _ _ _ ae])
  have W:=V (FW c u T cs P (b.Au (b.p.text.drop 1)::l) (a.Au (a.p.text.drop 1)) (.mk (if (1:Nat)=2 then 15 else 14) [] [] (F7 (d.map Mem.p)) 0 false false) (hd z none) (A9 z none) x E)
  have o:=V (And.intro p.seg (And.intro N (And.intro K q)));clear p N K q E;go_wp2_with fail
  apply W.m;rintro C bb⟨rfl,G,H,ah⟩;have D:=V (And.intro G H);clear G H ah;go_wp2;go_end0;rw[ag.q];exact⟨_,rfl,CX y.q ar.q al.q rfl ac.q rfl (((Fr.refl _ g).alloc _).trans o.q.2.2.2 (λf k=>.inl k)) o.q.2.2.1 o.q.1 o.q.2.1.q D.q.2 rfl D.q.1⟩
 skip
 have ag:U (Cm a.p b.p=1):=V (by unfold Cm;rw[if_neg (λf=>ax f.1)]);have a2:¬(1:Int)<(a.p.text.length:Int):=Z;go_enter func208,ntmps208;go_wp2_with fail
 rw[<-an,<-ao,ap.q 1,aq.q 1];refine(am.q 1).mono ?_;rintro C g⟨rfl,F,t,s⟩;have ab:U (∀v,Ch (g.alloc (.cells #[.pointer (hd d none),.pointer (A9 d none)] 135)) g 0 135 [v,v] d):=V (λv=>by
  have M:=y.q.nodup;rw[Jf,Dk]at M;have L:∀e∈d,e.m<g:=λe m=>t.lt e m;exact⟨t.move (λe m=>Sqj _ _ _ (L e m)),⟨Ak _ _,Y⟩,(Sqd.1 (List.nodup_cons.1 (Sqd.1 M).2.1).2).1,λj=>by
   obtain⟨e,m,a1⟩:=List.mem_map.1 j;have:=L e m;omega⟩)
 have aa:=V (Wq g 0 135 [undef,undef] d _ (ab.q undef) au.q);have r:=V F;have ac:=V s;have a6:w<=g.heap.size:=by have:=s.size;simpa [World.setCell]using this
 clear F t s;go_wp2_with fail
 apply aa.m;rintro C x⟨z,rfl,p,N,K,q⟩;have a9:=p.hdr.Ro;have ba:=p.hdr.cellL;have a7:(g:Nat)+1<=x.heap.size:=by have:=q.size;simpa using this
 have E:Ch x c u T cs (P++a.Au (a.p.text.drop 1)::b.Au (b.p.text.drop 1)::l):=r.q.move (λf k=>by
  have ae:f<g:=by rcases Sc.1 k with rfl|k;exact r.q.lt;exact r.q.mlt f k
  have af:f∉g.heap.size::Ad d:=λj=>by
   rcases Sc.1 j with j|j
   ·omega
   exact Wn y.q f j k
  rw[q.block f (by simp;omega) af,Sqj _ _ _ ae])
 have W:=V (FW c u T cs P (b.Au (b.p.text.drop 1)::l) (a.Au (a.p.text.drop 1)) (.mk (if (1:Nat)=2 then 15 else 14) [] [] (F7 (d.map Mem.p)) 0 false false) (hd z none) (A9 z none) x E)
 have o:=V (And.intro p.seg (And.intro N (And.intro K q)));clear p N K q E;go_wp2_with fail
 apply W.m;rintro C bb⟨rfl,G,H,ah⟩;have D:=V (And.intro G H);clear G H ah;go_wp2;go_end0;rw[ag.q];exact⟨_,rfl,CX y.q ar.q al.q rfl ac.q rfl (((Fr.refl _ g).alloc _).trans o.q.2.2.2 (λf k=>.inl k)) o.q.2.2.1 o.q.1 o.q.2.1.q D.q.2 rfl D.q.1⟩
def Fw (s:Pt):List Pt->Option (List Pt×Pt×List Pt)
 |[]=>none
 |p::a=>match Fw s a with
  |some (d,g,f)=>some (p::d,g,f)
  |none=>if opens s p=true then some ([],p,a)else none
theorem KD (s:Pt)(l:List Pt)(d:∀a∈l,opens s a=false):Fw s l=none:=by
 induction l with
 |nil=>rfl
 |cons h j g=>simp only[Fw];rw[g (λa f=>d a (by simp[f]))];simp[d h Y]
theorem znr (s:Pt)(a:List Pt)(d:Pt)(m:List Pt)(g:opens s d=true)(f:∀j∈m,opens s j=false):Fw s (a++d::m)=some (a,d,m):=by
 induction a with
 |nil=>simp only[List.nil_append,Fw];rw[KD s m f];simp[g]
 |cons k l h=>simp only[List.cons_append,Fw];rw[h]
def Dr:Nat->List Pt->Pt->List Pt×Pt
 |0,d,a=>(d,a)
 |f+1,d,a=>if a.rc=true/\a.text≠[]then (match Fw a d with
   |none=>(d,a)
   |some (h,g,j)=>Dr f (h++[g.Au (g.text.drop (Cm g a)),La (Cm g a) j]) (a.Au (a.text.drop (Cm g a))))else (d,a)
def Ic:List Pt->List Pt->List Pt
 |L,[]=>L
 |L,s::r=>Ic ((Dr s.text.length L s).1++[(Dr s.text.length L s).2]) r
def pairT (l:List Pt):List Pt:=Ic [] l
theorem Rk (a:Nat)(L:List Pt)(s:Pt)(d:¬(s.rc=true/\s.text≠[])):Dr a L s=(L,s):=by
 cases a with
 |zero=>rfl
 |succ a=>simp only[Dr];rw[if_neg d]
theorem Yi (a:Nat)(L:List Pt)(s:Pt)(d:Fw s L=none):Dr a L s=(L,s):=by
 cases a with
 |zero=>rfl
 |succ a=>simp only[Dr];rw[d];simp
theorem Xu (d:Nat)(L f m:List Pt)(s a:Pt)(h:s.rc=true)(j:s.text≠[])(g:Fw s L=some (f,a,m)):Dr (d+1) L s=Dr d (f++[a.Au (a.text.drop (Cm a s)),La (Cm a s) m]) (s.Au (s.text.drop (Cm a s))):=by
 simp only[Dr];rw[if_pos ⟨h,j⟩,g]
theorem za9 (d g:Nat)(L:List Pt)(s:Pt)(o:s.text.length<=d)(p:s.text.length<=g):Dr d L s=Dr g L s:=by
 induction d generalizing g L s with
 |zero=>
  have:s.text=[]:=Qbg.1 Z;rw[Rk 0 L s (λj=>j.2 this),Rk g L s (λj=>j.2 this)]
 |succ d l=>
  by_cases a:s.rc=true/\s.text≠[]
  ·have q:0<s.text.length:=Qbf.2 a.2;obtain⟨h,rfl⟩:∃h,g=h+1:=⟨g-1,Z⟩;cases f:Fw s L with
   |none=>rw[Yi _ _ _ f,Yi _ _ _ f]
   |some m=>
    obtain⟨u,k,v⟩:=m;rw[Xu _ _ _ _ _ _ a.1 a.2 f,Xu _ _ _ _ _ _ a.1 a.2 f];have t:1<=Cm k s:=(by unfold Cm;split<;>omega);have r:(s.Au (s.text.drop (Cm k s))).text.length=s.text.length-Cm k s:=(by simp[Pt.Au,Pt.text]);exact l h _ _ Z Z
  rw[Rk _ _ _ a,Rk _ _ _ a]
theorem Rv (a b:List Pt):txt (a++b)=txt a+txt b:=by simp[txt]
theorem Wj (p:Pt)(r:List Pt):txt (p::r)=p.text.length+txt r:=by simp[txt]
structure Mj (c o T:Nat)(cs:List Value)(l:List Mem)(A0:Nat->Prop)(w:Sw)(L R:List Mem)(A:Nat->Prop)(wr:Sw):Prop where
 ch:Ch wr c o T cs (L++R)
 Ab:Kd wr A (L++R)
 dead:∀x,A x->x<wr.heap.size/\x∉c::Ad (L++R)
 old:∀x,A x->A0 x\/x∈Ad l\/w.heap.size<=x
 live:∀x∈Ad (L++R),x∈Ad l\/w.heap.size<=x
 bytes:txt ((L++R).map Mem.p)<=1000000
 runs:∀x∈L++R,x.p.rs<=1000000
 fr:Fr (c::Ad l) w wr
theorem Mj.below {c k T:Nat}{cs:List Value}{l:List Mem}{h:Nat->Prop}{w:Sw}{L j:List Mem}{A:Nat->Prop}{wr w':Sw}(a:Mj c k T cs l h w L j A wr)(g:Below wr wr w'):Mj c k T cs l h w L j A w':=
 ⟨a.ch.move (λf d=>g.block f (by rcases Sc.1 d with rfl|d;exact a.ch.lt;exact a.ch.mlt f d)),λe m=>(a.Ab e m).move (λf d=>d) (λf d=>g.block f (a.dead f d).1),λf d=>⟨Qh (a.dead f d).1 g.size,(a.dead f d).2⟩,a.old,a.live,a.bytes,a.runs,a.fr.trans (Fr.Ra (L:=[]) g) (λf d=>by simp at d)⟩
theorem Mj.wrapped {c y T:Nat}{cs:List Value}{l:List Mem}{C:Nat->Prop}{w:Sw}{h m j:List Mem}{g s:Mem}{A:Nat->Prop}{wr w':Sw}{n:Mem}{z:Nat}(o:Mj c y T cs l C w (h++g::m) (s::j) A wr)(p:FT c y T cs h m j g s z A wr n w'):Mj c y T cs l C w (h++[g.Au (g.p.text.drop z),n]) (s.Au (s.p.text.drop z)::j) (λd=>A d\/d∈Ad m) w':=by
 have q:(h++[g.Au (g.p.text.drop z),n])++(s.Au (s.p.text.drop z)::j)=h++g.Au (g.p.text.drop z)::n::s.Au (s.p.text.drop z)::j:=Y;have G:(h++g::m)++s::j=h++g::(m++s::j):=Y;have u:=o.ch;have r:=o.dead;have v:=o.live;have D:=o.bytes;have t:=o.runs;rw[G]at u r v D t;have F:=p.fr.size;have x:∀d∈Ad m,d∈Ad (h++g::(m++s::j)):=λd a=>by rw[Jf,Dk];simp[a]
 have E:∀d∈Ad (h++g.Au (g.p.text.drop z)::n::s.Au (s.p.text.drop z)::j),d∈Ad (h++g::(m++s::j))\/wr.heap.size<=d:=λd a=>by
  simp[Ad,Mem.Au]at a ⊢;rcases a with a|a|a|a|a
  ·exact .inl (.inl a)
  ·exact .inl (.inr (.inl a))
  ·exact .inr (by have:=p.new;omega)
  ·exact .inl (.inr (.inr (.inr (.inl a))))
  exact .inl (.inr (.inr (.inr (.inr a))))
 have P:=o.fr.size;refine⟨by rw[q];exact p.ch,by rw[q];exact p.Ab,?_,?_,?_,?_,?_,?_⟩
 ·rw[q];intro d a;rcases a with a|a
  ·refine⟨Qh (r d a).1 F,λf=>?_⟩;rcases Sc.1 f with f|f
   ·exact(r d a).2 (by rw[f];exact Qx)
   rcases E d f with f|f
   ·exact(r d a).2 (Qo _ f)
   have:=(r d a).1;omega
  refine⟨Qh (u.mlt d (x d a)) F,λf=>?_⟩;have L:=Wn (ta:=g.p.text.drop z) (tb:=s.p.text.drop z) u d a;apply L
  rcases Sc.1 f with f|f
  ·rw[f];exact Qx
  refine Qo _ ?_;have K:d≠n.m:=λe=>by have:=u.mlt d (x d a);have:=p.new;omega
  simp[Ad,Mem.Au]at f ⊢;rcases f with f|f|f|f|f
  ·exact .inl f
  ·exact .inr (.inl f)
  ·exact absurd f K
  ·exact .inr (.inr (.inl f))
  exact .inr (.inr (.inr f))
 ·intro d a;rcases a with a|a
  ·exact o.old d a
  rcases v d (x d a)with k|k
  ·exact .inr (.inl k)
  exact .inr (.inr k)
 ·rw[q];intro d a;rcases E d a with k|k
  ·exact v d k
  exact .inr Z
 ·rw[q];have H:n.p.text=[]:=by rw[p.part];rfl
  have M:(g.Au (g.p.text.drop z)).p.text=g.p.text.drop z:=rfl;have N:(s.Au (s.p.text.drop z)).p.text=s.p.text.drop z:=rfl;simp only[Qv,Qs,Rv,Wj,H,M,N,Qf,Qi]at D ⊢;omega
 ·rw[q];intro d a;rcases Qbh.1 a with a|a
  ·exact t d (by simp[a])
  rcases Sc.1 a with rfl|a
  ·exact t g Y
  rcases Sc.1 a with rfl|a
  ·rw[p.part];simp[La,Pt.rs]
  rcases Sc.1 a with rfl|a
  ·exact t s Y
  exact t d (by simp[a])
 refine o.fr.trans p.fr (λd a=>?_);rcases Sc.1 a with a|a
 ·exact .inl (by rw[a];exact Qx)
 rcases v d a with k|k
 ·exact .inl (Qo _ k)
 exact .inr k
theorem zh6 (c q T:Nat)(cs:List Value)(l:List Mem)(r:Nat->Prop)(w:Sw)(p:Mj c q T cs l r w [] l r w):Calls prog 163 #[.pointer (some (c q))] w λe H=>∃k o,e=.returned (.tuple #[])/\U (k.map Mem.p=pairT (l.map Mem.p))/\Mj c q T cs l r w k [] o H:=by
 have a3:=V (U3 c q (.pointer (hd l none)) w p.ch.hdr.Ro ⟨_,rfl⟩);have a4:=V p;clear p;go_enter func163,ntmps163;go_wp2_with fail
 apply a3.m;rintro e H⟨rfl,rfl⟩;go_wp2;go_loopg [2,3] l.length (λR y _ wr=>∃k d o,R=d.length/\y=.pointer (hd d none)/\U (Ic (k.map Mem.p) (d.map Mem.p)=pairT (l.map Mem.p))/\Mj c q T cs l r w k d o wr)
 case atStart=>exact⟨[],l,r,rfl,rfl,V rfl,a4.q⟩
 case round=>
  obtain⟨k,d,o,rfl,rfl,az,L⟩:=hrel;cases d with
  |nil=>
   have ab:=V L;clear L;rw[show hd ([]:List Mem) none=none from rfl];go_wp2;go_end0;exact⟨k,o,rfl,V az.q,ab.q⟩
  |cons j d=>
   have ab:=V L;rw[show hd (j::d) none=some (j.m:Addr) from rfl];clear L;go_wp2;go_loopg [3] j.p.text.length (λR _ wr=>∃g a o,a.m=j.m/\R=a.p.text.length/\U (Dr R (g.map Mem.p) a.p=Dr j.p.text.length (k.map Mem.p) j.p)/\Mj c q T cs l r w g (a::d) o wr)
   case atStart=>exact⟨k,j,o,rfl,rfl,V rfl,ab.q⟩
   case round=>
    obtain⟨g,a,A,P,rfl,au,M⟩:=hrel;have af:=M.ch;have ak:=af.seg;have N:=((Eu _ _ _ _ _).1 ak).2.cells;have y:wr.cell? ⟨a.m,2,none⟩=some (.string (S.B a.p.text)):=X N 2 _ rfl;have ao:wr.cell? ⟨a.m,7,none⟩=some (.bool a.p.rc):=X N 7 _ rfl;have aq:a.m<wr:=af.mlt a.m (by simp[Ad]);have K:=V (λ(z:Sw) (am:Below wr wr z)=>Oz a.m (.pointer (hd d none)) z (X ((am.block a.m aq).trans N) 9 _ rfl) ⟨_,rfl⟩);have ap:=V M;have ai:U (∀z,Below wr wr z->Mj c q T cs l r w (g++[a]) d A z):=V (λz am=>by
     have m:=ap.q.below am;have h:(g++[a])++d=g++a::d:=Y;exact⟨by rw[h];exact m.ch,by rw[h];exact m.Ab,by rw[h];exact m.dead,m.old,by rw[h];exact m.live,by rw[h];exact m.bytes,by rw[h];exact m.runs,m.fr⟩)
    have ah:U (Dr a.p.text.length (g.map Mem.p) a.p=(g.map Mem.p,a.p)->Ic ((g++[a]).map Mem.p) (d.map Mem.p)=pairT (l.map Mem.p)):=V (λm=>by
     have aa:=az.q;simp only[Qs,Ic]at aa;rw[<-au.q,m]at aa;rw[Qv];exact aa)
    have ax:a.p.text≠[]->_:=λbl=>zlw g d a wr ak bl M.runs;have bh:=V ax;have ay:=V P;rw[P]at y ao K aq;clear af ak N M ax;cases s:a.p.rc
    ·rw[s]at ao;have E:=V (ah.q (Rk _ _ _ (λp=>by rw[s]at p;exact absurd p.1 Y)));have F:=V (ai.q wr Sr);clear s;go_wp2_with (go_at_call 110;refine(K.q _ Sr).mono ?_;rintro h H⟨rfl,rfl⟩)
     go_roundg d.length
     case rel=>exact⟨g++[a],d,A,rfl,rfl,E.q,F.q⟩
     case measure=>simp
    rw[s]at ao;by_cases t:a.p.text=[]
    ·have E:=V (ah.q (Rk _ _ _ (λp=>p.2 t)));have F:=V (ai.q wr Sr);rw[t]at y;have bs:wr.cell? (j.m 2)=some (.string ⟨#[]⟩):=y;clear s y t;go_wp2_with (go_at_call 110;refine(K.q _ Sr).mono ?_;rintro h H⟨rfl,rfl⟩)
     go_roundg d.length
     case rel=>exact⟨g++[a],d,A,rfl,rfl,E.q,F.q⟩
     case measure=>simp
    have a0:0<(S.B a.p.text).size:=(by rw[S.Bc];exact Qbf.2 t);have bp:=S.Np _ a0;have bq:=S.K9 _ a0;have aw:=V (bh.q t);rw[P]at aw;have bj:=V s;have Q:=V t;clear s t P;go_wp2_with (fail);apply aw.m;rintro h a2⟨br,rfl,D,aj⟩;rcases aj.q with ⟨rfl,ar⟩|⟨u,f,v,a5,rfl,G,av⟩
    ·have E:=V (ah.q (Yi _ _ _ (KD _ _ (λbo an=>by
      obtain⟨e,ag,rfl⟩:=List.mem_map.1 an;exact ar e ag))))
     have F:=V (ai.q a2 D);have a9:=V D;clear ar D aj;go_wp2_with (go_at_call 110;refine(K.q _ a9.q).mono ?_;rintro h H⟨rfl,rfl⟩)
     go_roundg d.length
     case rel=>exact⟨g++[a],d,A,rfl,rfl,E.q,F.q⟩
     case measure=>simp
    subst a5;have x:=ap.q.below D;have C:(u++f::v)++a::d=u++f::(v++a::d):=Y;have a1:f.p.text≠[]:=λe=>by unfold opens at G;rw[e]at G;simp at G
    have ae:=x.bytes;rw[C]at ae;simp only[Qv,Qs,Rv,Wj]at ae;have ac:=zb7 c q T cs u v d f a A a2 (by rw[<-C];exact x.ch) a1 Q.q Z Z Z (by rw[<-C];exact x.Ab) (by rw[<-C];exact x.dead);rw[ay.q]at ac;have a8:=V ac;have a7:=V x;have bb:U (∀n:Mem,n.p=La (Cm f.p a.p) (v.map Mem.p)->Dr (a.Au (a.p.text.drop (Cm f.p a.p))).p.text.length ((u++[f.Au (f.p.text.drop (Cm f.p a.p)),n]).map Mem.p) (a.Au (a.p.text.drop (Cm f.p a.p))).p=Dr j.p.text.length (k.map Mem.p) j.p):=V (λn bg=>by
     rw[<-au.q];have bi:0<a.p.text.length:=Qbf.2 Q.q;obtain⟨W,bc⟩:∃W,a.p.text.length=W+1:=⟨a.p.text.length-1,Z⟩;have bd:Fw a.p ((u++f::v).map Mem.p)=some (u.map Mem.p,f.p,v.map Mem.p):=by
      rw[Qv,Qs];exact znr _ _ _ _ G (λbo an=>by obtain⟨e,ag,rfl⟩:=List.mem_map.1 an;exact av e ag)
     rw[bc,Xu _ _ _ _ _ _ bj.q Q.q bd];have bn:1<=Cm f.p a.p:=(by unfold Cm;split<;>omega);have bm:(a.Au (a.p.text.drop (Cm f.p a.p))).p.text.length=a.p.text.length-Cm f.p a.p:=(by simp[Mem.Au,Pt.Au,Pt.text]);rw[Qv,Qs,Qs,List.map_nil,bg];exact za9 _ _ _ _ Z (by show (a.Au (a.p.text.drop (Cm f.p a.p))).p.text.length<=W;omega))
    have bf:U ((a.Au (a.p.text.drop (Cm f.p a.p))).p.text.length<a.p.text.length):=V (by
     have bi:0<a.p.text.length:=Qbf.2 Q.q;have bn:1<=Cm f.p a.p:=(by unfold Cm;split<;>omega);have bm:(a.Au (a.p.text.drop (Cm f.p a.p))).p.text.length=a.p.text.length-Cm f.p a.p:=(by simp[Mem.Au,Pt.Au,Pt.text]);omega)
    have bk:U ((a.Au (a.p.text.drop (Cm f.p a.p))).m=j.m):=V ay.q;clear x ac ae a1 D aj G av C;rw[show (some f.ad:So)=some (f.m:Addr) from rfl];go_wp2_with (fail);apply a8.m;rintro h bt⟨n,rfl,al⟩;have a6:=V (a7.q.wrapped al);have ba:=V (bb.q n al.part);clear al;go_wp2;go_roundg (a.Au (a.p.text.drop (Cm f.p a.p))).p.text.length
    case rel=>exact⟨_,_,_,bk.q,rfl,ba,a6.q⟩
    case measure=>exact bf.q
def He (l:List Pt):List Pt:=F7 (pairT l)
structure Zn (c o T:Nat)(cs:List Value)(l:List Mem)(A0:Nat->Prop)(w:Sw)(l':List Mem)(A:Nat->Prop)(w':Sw):Prop where
 ch:Ch w' c o T cs l'
 part:l'.map Mem.p=He (l.map Mem.p)
 Ab:Kd w' A l'
 dead:∀x,A x->x<w'.heap.size/\x∉c::Ad l'
 old:∀x,A x->A0 x\/x∈Ad l\/w.heap.size<=x
 live:∀x∈Ad l',x∈Ad l\/w.heap.size<=x
 fr:Fr (c::Ad l) w w'
theorem GX (c j T:Nat)(cs:List Value)(l:List Mem)(o:Nat->Prop)(w:Sw)(v:Ch w c j T cs l)(A:Kd w o l)(x:∀a,o a->a<w.heap.size/\a∉c::Ad l)(E:txt (l.map Mem.p)<=1000000)(D:∀a∈l,a.p.rs<=1000000):Calls prog 107 #[.pointer (some (c j))] w λe W=>∃u r,e=.returned (.tuple #[])/\Zn c j T cs l o w u r W:=by
 have M:=V (zh6 c j T cs l o w ⟨v,A,x,λa d=>.inl d,λa d=>.inl d,E,D,Fr.refl _ _⟩);clear v A x E D;go_enter func107,ntmps107;go_wp2_with fail
 apply M.m;rintro e F⟨s,r,rfl,R,f⟩;have z:Ch F c j T cs s:=by have:=f.ch;rwa [Qbk]at this
 have y:txt (s.map Mem.p)<=1000000:=by have:=f.bytes;rwa [Qbk]at this
 have L:=V (Wq c j T cs s F z y);have N:=V f;clear f z y;go_wp2_with fail
 apply L.m;rintro e ab⟨u,rfl,p,q,h,g⟩;have P:=V (And.intro p (And.intro q (And.intro h g)));clear p q h g;go_wp2;go_end0;obtain⟨p,q,h,g⟩:=P.q;have f:=N.q;have hd:=f.dead;have t:=f.live;have C:=f.Ab;rw[Qbk]at hd t C;refine⟨u,r,rfl,p,by rw[q.q,R.q];rfl,?_,?_,f.old,λa d=>t a (h.Ad a d),f.fr.trans g (λa d=>?_)⟩
 ·intro e Q;obtain⟨G,k,aa,H,K⟩:=h e Q;rw[H,K];exact(C G k).move (λa d=>d) (λa d=>g.block a (hd a d).1 (hd a d).2)
 ·intro a d;refine⟨Qh (hd a d).1 g.size,λm=>(hd a d).2 ?_⟩;rcases Sc.1 m with m|m
  ·rw[m];exact Qx
  exact Qo _ (h.Ad a m)
 rcases Sc.1 d with d|d
 ·exact .inl (by rw[d];exact Qx)
 rcases t a d with k|k
 ·exact .inl (Qo _ k)
 exact .inr k
