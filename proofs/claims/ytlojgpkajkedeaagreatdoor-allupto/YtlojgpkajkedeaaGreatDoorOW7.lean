import Derived.Test.YtlojgpkajkedeaaGreatDoorOW3
import Derived.Deep.RegionHeld3
import Derived.Deep.DeepCutAuto
set_option maxHeartbeats 0
set_option maxRecDepth 100000
namespace Go.Proofs.YtlojgpkajkedeaaGreatDoor
open Go.RowKit Go.Proofs.Tryz
theorem zjy (s:Sb)(w:Sw)(j:s.size<=maxLen)(d:S.Bh (S.Aq s)=0\/S.Fa (S.Aq s) (S.Bh (S.Aq s))=false):Calls prog 121 #[s] w λe f=>e=.returned (.tuple #[.agg #[.int .u8 0,O,O,false],false])/\Below w w f:=by
 go_enter func121,ntmps121;go_wp2_with fail
 refine(Lv _ _ j).mono ?_;rintro e f⟨a,rfl,o,l,rfl⟩;rw[<-o.q]at d;have m:S.Bh a<=a.size:=by rw[<-S.lda];exact S.Zp _
 go_wp2_with fail
 refine(VB _ _ (Qj l j)).mono ?_;rintro e f⟨rfl,rfl⟩;by_cases h:S.Bh a=0
 ·have k:(((S.Bh a:Nat):Int) == 0)=true:=by rw[Sqb];omega
  clear h d;go_wp2;exact Sqk (v:=.tuple #[.agg #[.int .u8 0,O,O,false],false]) (by simp[results,results121,go_sem]) rfl ⟨rfl,Sr.alloc (Qc _) _⟩
 have k:(((S.Bh a:Nat):Int) == 0)=false:=by rw[Qe];omega
 have p:S.Fa a (S.Bh a)=false:=by rcases d with g|g;exact absurd g h;exact g
 clear h d;go_wp2_with (go_at_call 171;refine(Y4 a _ _ m).mono ?_;rintro e f⟨rfl,rfl⟩)
 exact Sqk (v:=.tuple #[.agg #[.int .u8 0,O,O,false],false]) (by simp[results,results121,go_sem]) rfl ⟨rfl,Sr.alloc (Qc _) _⟩
theorem Na {W f:Sw}(g:Below W W f):(∀b a,b<W.heap.size->f.cell? ⟨b,a,none⟩=W.cell? ⟨b,a,none⟩)/\(∀b a,b<W.heap.size->f.frozen? ⟨b,a,none⟩=W.frozen? ⟨b,a,none⟩):=
 ⟨λb a d=>g.cell (p:=⟨b,a,none⟩) d,λb a d=>g.frozen (p:=⟨b,a,none⟩) d⟩
theorem Env.alloc {w:Sw}(a:Env w)(d:Obj):Env (w.alloc d):=a.below (Sr.alloc (Qc _) _)
theorem Env.drew {w:Sw}(a:Env w):Env w.drew:=a.below Sr.drew
theorem zak (r:Sb)(m:Nat)(w:Sw)(k:m+1<=r.size)(j:m<=6)(hd:∀h∈r.data.toList.take m,S.I5 h=true)(d:Env w):Calls prog 179 #[.string (r.extract 0 (m+1))] w λe g=>e=.returned (.int .i64 (S.Al (r.data.toList.take m)))/\Below w w g:=by
 have f:(r.extract 0 (m+1)).size=m+1:=by rw[Sqc];omega
 have a:(r.extract 0 (m+1)).data.toList.take ((r.extract 0 (m+1)).size-1)=r.data.toList.take m:=by
  rw[f,S.Za,List.take_take];congr 1;omega
 have:=zgt (r.extract 0 (m+1)) w Z Z (by rw[a];exact hd) d;rw[a]at this;exact this
theorem zf1 (r:Sb)(k:Nat)(w:Sw)(a:r.size<=maxLen):Calls prog 111 #[.string (r.extract k r.size)] w λe d=>e=.returned (.bool (S.Ar (r.data.toList.drop k)))/\d=w:=by
 have:=Jt (r.extract k r.size) w (by rw[Sqc];exact Qj Z a);rw[S.Iw]at this;exact this
theorem zcz (r:Sb)(k:Nat)(w:Sw)(a:r.size<=maxLen):Calls prog 112 #[.string (r.extract k r.size)] w λe d=>e=.returned (.int .i64 (S.Ap (r.data.toList.drop k):Nat))/\d=w:=by
 have:=Kg (r.extract k r.size) w (by rw[Sqc];exact Qj Z a);rw[S.Iw]at this;exact this
theorem X {w:Sw}{b T:Nat}{cs:Array Value}(a:w.heap[b]?=some (.cells cs T (0,0)))(i:Nat)(v:Value)(d:cs[i]?=some v):w.cell? (b i)=some v:=by
 simp[World.cell?,a,d]
theorem Av {w:Sw}{b T:Nat}{cs:Array Value}(a:w.heap[b]?=some (.cells cs T (0,0)))(i:Nat):w.frozen? (b i)=false:=by
 simp[World.frozen?,a]
theorem Aj {w:Sw}{b T:Nat}{cs:List Value}(d:w.heap[b]?=some (.cells cs.toArray T (0,0)))(i:Nat)(a:Value):(w.setCell (b i) a).heap[b]?=some (.cells (cs.set i a).toArray T (0,0)):=by
 simp[World.setCell,Array.getElem?_modify,d]
theorem Di {w:Sw}{b:Nat}{d:Option Obj}(f:w.heap[b]?=d)(a:Addr)(g:b≠a.block)(h:Value):(w.setCell a h).heap[b]?=d:=by
 rw[Below.heap_setCell _ _ _ _ g];exact f
theorem Ak (w:Sw)(a:Obj):(w.alloc a).heap[w.heap.size]?=some a:=by
 show (w.heap.push a)[w.heap.size]?=_;simp
def Zh (w:Sw)(k:Int)(g:Int)(f:Bool)(h:Value)(d:Sw):Prop:=
 ∃a:Nat,h=.pointer (some a)/\w.heap.size<a/\d.heap[a]?=some (.cells #[.int .u8 k,g,O,f] 186 (0,0))/\d.heap[w.heap.size]?=some (.cells #[.int .u8 0,O,O,false] 186 (0,0))/\Below w w d
theorem zlk {w a:Sw}{k j:Int}{h:Bool}(f:Below (w.alloc (.cells #[.int .u8 0,O,O,false] 186)).drew.heap.size (w.alloc (.cells #[.int .u8 0,O,O,false] 186)).drew a):Zh w k j h (.pointer (some a)) (a.alloc (.cells #[.int .u8 k,j,O,h] 186)):=by
 have l:=f.size;have d:w.heap.size<(w.alloc (.cells #[.int .u8 0,O,O,false] 186)).drew.heap.size:=Y;have g:w<a.heap.size:=Qh d l;refine⟨a,rfl,g,Ak _ _,?_,?_⟩;·rw[Sqj _ _ _ g,f.block _ d];exact Ak _ _
 refine Below.alloc (Below.trans ?_ (f.mono (Sm d))) (Sm g) _;exact(Sr.alloc (Qc _) _).drew
theorem zjx {w d:Sw}{k g:Int}{f:Bool}(a:Below ((w.alloc (.cells #[.int .u8 0,O,O,false] 186)).alloc (.cells #[.int .u8 0,O,O,false] 186)).drew.heap.size ((w.alloc (.cells #[.int .u8 0,O,O,false] 186)).alloc (.cells #[.int .u8 0,O,O,false] 186)).drew d):Zh w k g f (.pointer (some (((w:Nat)+1) 0))) ((((d.setCell (((w:Nat)+1) 0) (.int .u8 k)).setCell (((w:Nat)+1) 1) (.int .i64 g)).setCell (((w:Nat)+1) 2) (.int .i64 0)).setCell (((w:Nat)+1) 3) (.bool f)):=by
 have o:=a.size;have m:((w.alloc (.cells #[.int .u8 0,O,O,false] 186)).alloc (.cells #[.int .u8 0,O,O,false] 186)).drew.heap.size=(w:Nat)+2:=Y;have h:d.heap[(w:Nat)+1]?=some (.cells [.int .u8 0,.int .i64 0,.int .i64 0,.bool false].toArray 186 (0,0)):=by
  rw[a.block _ Z];have l:(w.alloc (.cells #[.int .u8 0,O,O,false] 186)).heap.size=(w:Nat)+1:=Y;rw[<-l];exact Ak _ _
 have j:d.heap[w.heap.size]?=some (.cells #[.int .u8 0,O,O,false] 186 (0,0)):=by
  rw[a.block _ Z];show ((w.alloc _).alloc _).heap[w.heap.size]?=_;rw[Sqj _ _ _ Y];exact Ak _ _
 refine⟨(w:Nat)+1,rfl,Z,?_,?_,?_⟩;·exact Aj (Aj (Aj (Aj h 0 _) 1 _) 2 _) 3 _
 ·exact Di (Di (Di (Di j _ Y _) _ Y _) _ Y _) _ Y _
 refine Sqh (Sqh (Sqh (Sqh (Below.trans ?_ (a.mono Z)) Y _) Y _) Y _) Y _;exact((Sr.alloc (Qc _) _).alloc Y _).drew
theorem ZA (s:Sb)(w:Sw)(bm:s.size<=140737488355328)(u:¬(S.Bh (S.Aq s)=0\/S.Fa (S.Aq s) (S.Bh (S.Aq s))=false))(r:Env w):Calls prog 121 #[s] w λe g=>e=.returned (.tuple #[.agg #[.int .u8 ((S.Ae s).kind.toNat:Int),.int .i64 (S.Ae s).Al,((S.Ae s).Ao:Nat),.bool (S.Ae s).empty],true])/\Below w w g:=by
 have aj:s.size<=maxLen:=by unfold maxLen;omega
 have p:=aj;unfold maxLen at aj;have bh:S.Ap s<=s.size:=by have:=S.Jz s;rw[S.lda]at this;exact this
 go_enter func121,ntmps121;go_wp2_with fail
 refine(Lv _ _ p).mono ?_;rintro e g⟨a,rfl,a2,ab,rfl⟩;have l:=V (S.Ve _ u);rw[<-a2.q]at u l;have ac:S.Bh a<=a.size:=by rw[<-S.lda];exact S.Zp _
 go_wp2_with fail
 refine(VB _ _ (Qj ab p)).mono ?_;rintro e g⟨rfl,rfl⟩;obtain⟨af,E⟩:=not_or.1 u;obtain⟨n,ah⟩:=Qyy (S.Bh a);obtain⟨d,K⟩:∃d,n=d+1:=⟨n-1,Z⟩;have ay:=S.zbb _ af;rw[ah]at ac E l ⊢;have a0:d<=6:=Z;have ap:U (∀j∈a.data.toList.take d,S.I5 j=true):=V (by
  rw[show d=S.Ep a by omega];exact S.PK _)
 have bc:S.Fa a n=true:=by simpa using E
 have bb:((n:Int) == 0)=false:=by rw[Qe];omega
 have az:d<a.size:=Z;have ai:=Qj ab p;obtain⟨h,L⟩:∃j,S.Al (a.data.toList.take d)=j:=⟨_,rfl⟩;obtain⟨k,G⟩:∃j,S.Ar (a.data.toList.drop n)=j:=⟨_,rfl⟩;have R:∀(f:Sw),Env f->Calls prog 179 #[.string (a.extract 0 n)] f λe g=>e=.returned h/\Below f f g:=λf aq=>by
  have:=zak a d f Z a0 ap.q aq;rw[L,<-K]at this;exact this
 have Q:∀(f:Sw),Calls prog 111 #[.string (a.extract n a.size)] f λe g=>e=.returned k/\g=f:=λf=>by
  have:=zf1 a n f ai;rw[G]at this;exact this
 have am:=V R;have al:=V Q;have a1:=V L;have T:=V G;have ae:=V K;have a3:IntKind.i64.wrap ((n:Int)-1)=(d:Int):=by rw[Sqe];omega
 have ar:(0:Int)<=(d:Int):=Z;have au:(d:Int)<(a.size:Int):=Z;have av:(n:Int)<=(a.size:Int):=Z;have aw:(0:Int)<=(n:Int):=Z;have bl:n<=7:=Z;have bi:1<=n:=Z;clear ah u af E ay R Q L G K;go_wp2_with fail
 refine(Y4 a n _ ac).mono ?_;rintro e g⟨rfl,rfl⟩;go_wp2;go_cut [7] (λa4 f=>Zh w (a[d].toNat:Int) h k a4 f)
 case first=>
  go_region_held3 (λg=>True) (trivial) (first|(go_at_call 179;refine(am.q _ (by first|exact r.alloc _|exact(r.alloc _).drew|exact(r.alloc _).alloc _|exact((r.alloc _).alloc _).drew)).mono ?_;rintro e bn⟨rfl,F⟩;obtain⟨bf,bg⟩:=Na F)|(go_at_call 111;refine(al.q _).mono ?_;rintro e x⟨rfl,rfl⟩))
  all_goals (go_wp2_with fail;go_meet;first|exact zlk F|exact zjx F)
 case rest=>
  obtain⟨P,rfl,bd,o,m,H⟩:=hcut;have a5:=X o 0 _ rfl;have a6:=X o 1 _ rfl;have a7:=X o 2 _ rfl;have a8:=X o 3 _ rfl;have a9:=Av o;have y:=X m 0 _ rfl;have z:=X m 1 _ rfl;have A:=X m 2 _ rfl;have C:=X m 3 _ rfl;have ba:=Av m;have bj:P≠w.heap.size:=Z;have bk:w.heap.size≠P:=Z;clear o m;have aa:U ((S.Ae s).kind=a[d]):=V (by
   rw[l.q];show a.data.toList.getD (n-1) 0=a[d];rw[ae.q,SF,List.getD_eq_getElem?_getD,S.Bz a d az];rfl)
  have ag:U ((S.Ae s).Al=h):=V (by rw[l.q,<-a1.q,ae.q,SF]);have W:U ((S.Ae s).empty=k):=V (by rw[l.q,<-T.q]);have t:U ((S.Ae s).Ao=S.Ap s+n+if k=true\/5<=S.Ap (a.data.toList.drop n)then 1 else S.Ap (a.data.toList.drop n)):=V (by rw[l.q,<-T.q])
  have ax:S.Ap (a.data.toList.drop n)<=a.size:=by
   have:=S.Jz (a.data.toList.drop n);rw[Qf,S.lda]at this;omega
  clear a3 ar au av aw;go_wp2_with fail
  refine(zcz a n _ ai).mono ?_;rintro e x⟨rfl,rfl⟩;obtain⟨N,ak⟩:∃j,S.Ap (a.data.toList.drop n)=j:=⟨_,rfl⟩;rw[ak]at ax t ⊢;clear ak;have fin:∀M:Nat,(S.Ae s).Ao=M->Ending.returned (.tuple #[.agg #[.int .u8 (a[d].toNat:Int),h,M,k],true])=.returned (.tuple #[.agg #[.int .u8 ((S.Ae s).kind.toNat:Int),.int .i64 (S.Ae s).Al,((S.Ae s).Ao:Nat),.bool (S.Ae s).empty],true]):=by
   intro M an;rw[an,aa.q,ag.q,W.q]
  have D:=V fin;clear fin aa ag W;cases k
  ·by_cases ao:5<=N
   ·have q:U ((S.Ae s).Ao=S.Ap s+n+1):=V (by rw[t.q,if_pos (.inr ao)]);go_wp2_with (go_at_call 112;refine(Kg s _ p).mono ?_;rintro e x⟨rfl,rfl⟩)
    refine Sqk (v:=.tuple #[.agg #[.int .u8 (a[d].toNat:Int),h,((S.Ap s:Int)+(n:Int)+1:Int),false],true]) (by simp[results,results121,go_sem,y,z,A,C]) rfl ⟨?_,?_⟩
    ·have:=D.q _ q.q;simpa using this
    repeat (refine Sqh ?_ (by simp<;>omega) _)
    exact H
   have q:U ((S.Ae s).Ao=S.Ap s+n+N):=V (by rw[t.q,if_neg (by simp;omega)]);go_wp2_with (go_at_call 112;refine(Kg s _ p).mono ?_;rintro e x⟨rfl,rfl⟩)
   refine Sqk (v:=.tuple #[.agg #[.int .u8 (a[d].toNat:Int),h,((S.Ap s:Int)+(n:Int)+(N:Int):Int),false],true]) (by simp[results,results121,go_sem,y,z,A,C]) rfl ⟨?_,?_⟩
   ·have:=D.q _ q.q;simpa using this
   repeat (refine Sqh ?_ (by simp<;>omega) _)
   exact H
  have q:U ((S.Ae s).Ao=S.Ap s+n+1):=V (by rw[t.q,if_pos (.inl rfl)]);go_wp2_with (go_at_call 112;refine(Kg s _ p).mono ?_;rintro e x⟨rfl,rfl⟩)
  refine Sqk (v:=.tuple #[.agg #[.int .u8 (a[d].toNat:Int),h,((S.Ap s:Int)+(n:Int)+1:Int),true],true]) (by simp[results,results121,go_sem,y,z,A,C]) rfl ⟨?_,?_⟩
  ·have:=D.q _ q.q;simpa using this
  repeat (refine Sqh ?_ (by simp<;>omega) _)
  exact H
theorem EA (s:Sb)(w:Sw)(h:s.size<=140737488355328)(g:Env w):Calls prog 121 #[s] w λe f=>e=.returned (.tuple #[.agg #[.int .u8 ((S.Ae s).kind.toNat:Int),.int .i64 (S.Ae s).Al,((S.Ae s).Ao:Nat),.bool (S.Ae s).empty],.bool (S.Ae s).ok])/\Below w w f:=by
 by_cases a:S.Bh (S.Aq s)=0\/S.Fa (S.Aq s) (S.Bh (S.Aq s))=false
 ·refine(zjy s w (by unfold maxLen;omega) a).mono ?_;rintro e f⟨rfl,d⟩;rw[S.Vi _ a];exact⟨rfl,d⟩
 refine(ZA s w h a g).mono ?_;rintro e f⟨rfl,d⟩;have:(S.Ae s).ok=true:=by rw[S.Ve _ a]
 rw[this];exact⟨rfl,d⟩
