import Derived.Test.YtlojgpkajkedeaaGreatDoorOF1
import Derived.Test.YtlojgpkajkedeaaGreatDoorOKK
import Derived.Test.YtlojgpkajkedeaaGreatDoorCards
import Derived.Test.YtlojgpkajkedeaaGreatDoorTie
import Derived.ChangeSlices
import Derived.Deep.Slices
import Derived.Carry
set_option maxHeartbeats 0
set_option maxRecDepth 100000
namespace Go.Proofs.YtlojgpkajkedeaaGreatDoor.allCase
open Go.ChangeShapes Go.WideShapes Go.ChangeAt Go.RowKit Go.Lib
theorem Zx : Tryz.prog.globalNamed "internal/strconv.uint64pow10" = some 5 := by kernel_rfl
theorem znj:(Tryz.prog.globals[5]?).map (·.type)=some 298:=Sk
theorem zc3:(Rows.laid_internal_strconv_uint64pow10:DataW Unit)=Lib.tabData .u64 Lib.pow10Tab:=Sk
theorem znv {W:Sw}(f:laidMet Tryz.prog Rows.fencedRow.laid W)(j:W.ShapedOpen Tryz.prog):Cv W W:=by
 have a:=XW f j;have d : laidMet Tryz.prog (("internal/strconv.uint64pow10", Rows.laid_internal_strconv_uint64pow10) :: Rows.fencedRow.laid.drop 3) W := f.tail.tail;rw[zc3]at d;have g : Lib.TabIs Tryz.prog W "internal/strconv.uint64pow10" .u64 Lib.pow10Tab := Lib.tabIs_of_head Zx znj Tryz.underlying298 Tryz.underlying97 Sk Sk d;have h:=g.cell Zx 0 J;exact⟨a,⟨a.2.2.1,a.2.2.2⟩,g,5,Zx,Sqf _ _ h⟩
theorem zbh:laidOutB Tryz.prog=true:=Sk
theorem zii:Tryz.prog.cellsOf 59=5:=Sk
theorem Zc:Tryz.prog.cellsOf 3=1:=Sk
theorem Z6:Tryz.prog.cellsOf 9=1:=Sk
theorem zj7:∃a d f g h:Field,Tryz.prog.underlying 59=some (.struct #[a,d,f,g,h])/\(a.type=3/\d.type=3/\f.type=3/\g.type=3/\h.type=9)/\a.offset=0/\d.offset=1/\f.offset=2/\g.offset=3/\h.offset=4:=
 ⟨_,_,_,_,_,Tryz.underlying59,⟨rfl,rfl,rfl,rfl,rfl⟩,rfl,rfl,rfl,rfl,rfl⟩
theorem Wz {d:Type}(a:DataW d):1<=Rows.uptoBulk a:=by
 cases a with
 |lit f=>cases f<;>simp[Rows.uptoBulk]
 |_=>simp[Rows.uptoBulk]
theorem zln {a:Type}(l:List (DataW a))(d:DataW a)(hd:d∈l):Rows.uptoBulk d<=Rows.uptoBulkAll l:=by
 induction l with
 |nil=>simp at hd
 |cons h j g=>
  simp only[Rows.uptoBulkAll];rcases Sc.1 hd with rfl|f
  ·omega
  have:=g f;omega
theorem zks {f:Type}(l:List (DataW f))(d:∀a∈l,6<=Rows.uptoBulk a):6*l.length<=Rows.uptoBulkAll l:=by
 induction l with
 |nil=>simp
 |cons g m h=>
  simp only[Rows.uptoBulkAll,Qd];have j:=d g Qx;have k:=h (λa hd=>d a (Qo _ hd));omega
theorem YI {u:Type}{enc:TypeId×Value->u}{W:Sw}{x:So}{len aa ak:Nat}{T:DataW u×List MemPlace}
  (ap:DataW.trod enc Tryz.prog W 0 (λ_=>true) true ak 52 [.slice x len aa]=some T) (q:Rows.uptoBulk T.1<=1048576):∃t:List Om,t.length=len/\t.length<=180000/\OC x t W:=by
 rcases Go.Deep.open_slice Tryz.underlying52 ap with ⟨h,_⟩|⟨v,bx,bq,bz,n,g,bn,h,_,bu,bv,L,ay,ax⟩
 ·simp at h;obtain⟨rfl,rfl,rfl⟩:=h;exact⟨[],rfl,Y,λi f al=>by simp at al⟩
 simp at h;obtain⟨rfl,rfl,rfl⟩:=h;simp only[if_true]at L;subst L;have bs:Rows.uptoBulkAll ((List.range len).map g)<=1048576:=by
  rw[ay]at q;simp only[Rows.uptoBulk]at q;omega
 obtain⟨af,ag,ah,ai,aj,av,⟨bd,bf,bg,bh,bi⟩,a5,a6,a7,a8,a9⟩:=zj7;have ae:∀i,i<len->∃f:Om,(∀a k,(Yc f)[a]?=some k->W.cell? ((v.add (i*5)).add a)=some k)/\Oy f.on/\Oy f.at_/\Oy f.rem/\f.x.size+6<=Rows.uptoBulk (g i):=by
  intro i d;obtain⟨ab,C,ac⟩:=ax i Z;rw[zii]at C;obtain⟨_,ar,an⟩:=World.cells?_some C;obtain⟨bm,bw,q,a0,_,az,j⟩:=DataW.trod_struct av ac;match bm,az,ab,ar with
  |[y0,y1,y2,y3,y4],_,[v0,v1,v2,v3,v4],_=>
   have D:=j 0 af rfl;have E:=j 1 ag rfl;have F:=j 2 ah rfl;have G:=j 3 ai rfl;have H:=j 4 aj rfl;rw[bd,a5,Zc]at D;rw[bf,a6,Zc]at E;rw[bg,a7,Zc]at F;rw[bh,a8,Zc]at G;rw[bi,a9,Z6]at H;obtain⟨a1,M,_,_⟩:=DataW.trod_int Tryz.underlying3 D;obtain⟨a2,N,_,bj⟩:=DataW.trod_int Tryz.underlying3 E;obtain⟨a3,P,_,bk⟩:=DataW.trod_int Tryz.underlying3 F;obtain⟨a4,Q,_,bl⟩:=DataW.trod_int Tryz.underlying3 G;obtain⟨o,R,bb,_⟩:=DataW.trod_string Tryz.underlying9 H;simp at M N P Q R;subst M N P Q R;have aw:o.size+6<=Rows.uptoBulk (g i):=by
    have am:g i=.agg [y0.1,y1.1,y2.1,y3.1,y4.1]:=by
     have:=congrArg Prod.fst a0;simpa using this
    have bo:=Wz y0.1;have y:=Wz y1.1;have z:=Wz y2.1;have A:=Wz y3.1;have e:o.data.toList.length=o.size:=(by rw[Array.length_toList];rfl);rw[am,bb];simp only[Rows.uptoBulk,Rows.uptoBulkAll];omega
   refine⟨⟨a1,a2,a3,a4,o⟩,?_,bounds_i64 bj,bounds_i64 bk,bounds_i64 bl,aw⟩;intro a k m;have aq:a<5:=by have:=(Qb.1 m).1;simpa [Yc]using this
   have:=an a aq;rw[this];exact m
 haveI:Inhabited Om:=⟨⟨0,0,0,0,⟨#[]⟩⟩⟩;obtain⟨ba,r⟩:=Go.Deep.choose_lt ae;have ao:=zks ((List.range len).map g) (λbr hd=>by
  obtain⟨i,d,rfl⟩:=List.mem_map.1 hd;have:=(r i (List.mem_range.1 d)).2.2.2.2;omega)
 simp only[List.length_map,List.length_range]at ao;refine⟨(List.range len).map ba,Y,by simp;omega,?_⟩;intro i f d;have p:i<len:=by have:=(Qb.1 d).1;simpa using this
 rw[SA,List.getElem?_range p]at d;simp at d;subst d;have bt:=zln _ (g i) (List.mem_map.2 ⟨i,List.mem_range.2 p,rfl⟩);obtain⟨c,y,z,A,bp⟩:=r i p;obtain⟨b,s,bc⟩:=v;have au:bc=none:=by
  have l:=(r 0 Z).1 0 _ rfl;simpa [Addr.add]using World.cell?_spot l
 subst au;have K:∀a,((b s:Addr).add (i*5)).add a=⟨b,s+i*5+a,none⟩:=λa=>by rw[Lib.add_plain,Lib.add_plain]
 refine⟨b,s,rfl,?_,λa k m=>?_,y,z,A,Z⟩
 ·have l:=c 0 _ rfl;rw[K]at l;exact Sqf _ _ l
 have:=c a k m;rw[K]at this;exact this
theorem contract (g:Type)(enc:TypeId×Value->g)(W:Sw)(E:Nat)(d:Array Value)(j r:List (DataW g))(F:List MemPlace)
  (z:∀(A:Nat) C f,Tryz.f12.params[A]?=some C->d[A]?=some f->Value.okWide Tryz.prog W .any E C f)
  (v:DataW.Whole enc Tryz.prog Tryz.f12.params.toList Rows.allSpec.vars false W d.toList j r F) (y:Rows.uptoSmall g (j++r)=true) (N:Cv W W) :
  Calls Tryz.prog 12 d W λe a=>∃f,e=.returned f/\Rows.allSpec.post enc Tryz.prog Tryz.f12 false true false false W d f a:=by
 have l:=v;obtain⟨ae,am,u,H,rfl,ak,al⟩:=v;have t:DataW.TrodAll enc Tryz.prog W 0 (λ_=>true) true Tryz.f12.params.toList d.toList j ae:=u;rw[Tryz.params12]at t z;obtain⟨D,ao,h,ah,m,an,aj,rfl,rfl,s,af⟩:=trodAll_cons t;obtain⟨rfl,rfl,rfl⟩:=trodAll_nil af;obtain rfl:d = #[D]:=by cases d;simp_all
 obtain⟨rfl,rfl⟩:=trodVars_none H;obtain⟨p,len,q,rfl⟩:=okWide_slice Tryz.underlying52 (z 0 52 D rfl rfl);have G:=s;obtain⟨ai,P⟩:=s;clear u;simp only[Qbk]at l y;have Q:∀o∈m,o.block<W:=λo aa=>by simpa using l.lt o (by simpa using aa)
 have K:∀(a:Sw),Below W W a->DataW.Trod enc Tryz.prog a 0 (λb=>decide (b<W)) true 52 (.slice p len q) h m:=
  λa R=>Below.trod zbh Sk (of_decide_eq_true Sk) G R Q
 have L:Rows.uptoBulk h<=1048576:=by
  have k:Rows.uptoBulkAll [h]<=1048576:=of_decide_eq_true y;simp only[Rows.uptoBulkAll]at k;omega
 obtain⟨ag,ac,ab,T⟩:=YI P L;subst ac;refine(zn2 p ag q W T ab N).mono λe a ⟨M,x⟩=>?_;subst M;refine⟨_,rfl,_,_,_,[],m++[],[],l,trodAll_cons_mk (shut_bool Tryz.underlying4 _) trodAll_mk0,trodAll_cons_mk (K a x) trodAll_mk0,rfl,x.frame _,λk=>by cases k⟩
theorem reads (d:Os){a:Type}(enc:TypeId×Value->a):∃f,DataW.whole enc Tryz.prog ((IB d).forCall (λ_ _=>0) ⟨#[],#[Sx],[]⟩).memory Tryz.f12.params.toList Rows.allSpec.vars false #[Value.slice none 0 0].toList 8=some ([.nil],[],f):=
 ⟨[],Sk⟩
theorem zcb (a:Os)(x:a.Started)(d:Type)(enc:TypeId×Value->d)(f:Stop.Interp):ReturnsInHanded {} Tryz.checked a 12 .any ((Rows.OpenSpec.upto Rows.allSpec).preRow enc Tryz.prog Tryz.f12 Rows.allUptoRow.domain false Rows.allUptoRow.laid) (((Rows.OpenSpec.upto Rows.allSpec).at f).post enc Tryz.prog Tryz.f12 false true false false):=by
 obtain⟨z,v⟩:=reads a enc;refine returnsInHanded_of_row (C:=Tryz.checked) (s:=Rows.OpenSpec.upto Rows.allSpec) own x Sk Tryz.func12
  (witness_row_atRef (enc:=enc) (C:=Tryz.checked) false (IB a) #[Sx] rfl Sk Sk Sk
   (OpenSpec.preRow_of_cond 8 v Sk (λy r=>by cases r;kernel_rfl) Sk (zb3 a _))) ?_
 intro g j h l m k u p _ q _ o t _;exact contract d enc g j h l m k u p (q _ rfl) (znv o t)
theorem zao:Tryz.prog.inPlace 12=Rows.allUptoRow.inPlace:=Sk
theorem zds:Tryz.prog.unfollowed 12=Rows.allUptoRow.unfollowed:=Sk
theorem zav:Tryz.prog.recurses 12=Rows.allUptoRow.recurses:=Sk
theorem zk6:Tryz.prog.varsNamed 12=Rows.allUptoRow.named:=Sk
theorem facts:joinedFacts Tryz.prog 12 Tryz.f12 (Rows.OpenSpec.upto Rows.allSpec).bare Rows.allUptoRow=true:=by
 unfold joinedFacts;rw[zao,zds,zav,zk6];kernel_rfl
theorem zk7:Rows.AllUptoSaid:=
 OpenClaim.holds_of_cond 12 Tryz.f12 rfl rfl rfl rfl rfl rfl rfl ⟨rfl,rfl,rfl,rfl,rfl⟩ rfl rfl rfl rfl rfl Sk Tryz.func12 facts
  (of_decide_eq_true Sk) (by unfold Func.isWrapper;first|(rw[if_pos (by decide +kernel)];kernel_rfl)|(rw[if_neg (by decide +kernel)];exact⟨rfl,rfl⟩))
  (λg h d f _ a=>by rw[OpenClaim.pre_eq_preRow];exact zcb g h d f a)
theorem plain (d : FuncId)(f : Func)(j : Tryz.pinned.checked.prog.funcNamed "rubric/rubriclaw.All" = some d)(k : Tryz.pinned.checked.prog.funcs[d]? = some f):true=Tryz.pinned.checked.prog.looks []/\∀(h:Nat) a,f.params[h]?=some a->Tryz.pinned.checked.prog.wantsStandIn a=false:=by
 obtain rfl : d = 12 := Qy ((show Tryz.prog.funcNamed "rubric/rubriclaw.All" = some 12 by kernel_rfl).symm.trans j) |>.symm;obtain rfl:f=Tryz.f12:=(Qy (Tryz.func12.symm.trans k)).symm;refine⟨Sk,λh a g=>?_⟩;rw[Tryz.params12]at g;have l:a=52:=by simpa using Array.mem_of_getElem? g
 subst l;exact(show Tryz.prog.wantsStandIn 52=false by kernel_rfl)
end Go.Proofs.YtlojgpkajkedeaaGreatDoor.allCase
namespace Go.Proofs.YtlojgpkajkedeaaGreatDoor
theorem allUpto_card:Rows.AllUptoCardSaid:=
 Claim7.holds_tied_plain_at .later [] _ _ _ _ allCase.zk7 (λ_ a=>by cases a) Sk (λ_ a=>by cases a) allUpto_row_tie rfl ⟨rfl,rfl⟩ Sk rfl allCase.plain Sk
