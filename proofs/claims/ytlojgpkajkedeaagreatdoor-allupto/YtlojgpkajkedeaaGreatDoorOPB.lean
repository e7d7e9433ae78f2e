import Derived.Test.YtlojgpkajkedeaaGreatDoorOE24
import Derived.Lib.OthersKept
import Derived.Lib.UnsafeStr
import Derived.RegionTactic
import Derived.Lib.ItoaNum
import Derived.Lib.ItoaLen
set_option maxHeartbeats 0
set_option maxRecDepth 100000
namespace Go.Proofs.YtlojgpkajkedeaaGreatDoor
open Go.RowKit Go.Proofs.Tryz
theorem Tryz.UD:(prog.info? 104).map (·.size)=some 2:=Sk
theorem Tryz.zmn:liesAt prog prog.depth 124 (2 / prog.cellsOf 124) 0 104 1=true:=Sk
theorem Tryz.PV:(prog.info? 5).map (λi=>(i.zero,i.size,i.bytes))=some (some (.int .u8 0),1,1):=Sk
theorem Tryz.zmx:prog.cellsOf 5=1:=Sk
abbrev Kn (B b:Nat)(l:List UInt8)(w:Sw):Prop:=Lib.IsBuilderF 124 5 B b (Lib.byteCells l) w
def Wrote (T:TypeId)(B b:Nat)(l:List UInt8)(w:Sw)(w':Sw):Prop:=Lib.IsBuilderF T 5 B b (Lib.byteCells l) w'/\Below B w w'/\Lib.OthersKept 5 (some b) w w'
theorem Wrote.trans {T:TypeId}{B b:Nat}{l f:List UInt8}{w g w2:Sw}(d:Wrote T B b l w g)(a:Wrote T B b f g w2):Wrote T B b f w w2:=⟨a.1,d.2.1.trans a.2.1,d.2.2.trans a.2.2⟩
theorem Wrote.refl {T:TypeId}{B b:Nat}{l:List UInt8}{w:Sw}(a:Lib.IsBuilderF T 5 B b (Lib.byteCells l) w):Wrote T B b l w w:=⟨a,Sr,Lib.OthersKept.refl _ _ _⟩
theorem zam (b:Nat)(w:Sw)(f:w.cell? b=some (.pointer (some b))):Calls prog 81 #[.pointer (some b)] w λe d=>e=.returned (.tuple #[])/\d=w:=by
 obtain⟨g,a,_⟩:=Option.map_eq_some_iff.1 Tryz.UD;go_enter func81,ntmps81;go_wp2;rw[Lib.run_neq_ptr_same w _ underlying102 a];go_wp2;go_end0;exact⟨rfl,rfl⟩
theorem zk2 (b:Nat)(w:Sw)(h:w.cell? b=some (.pointer none))(d:w.shape? b=some (124,2))(j:w.frozen? b=false):Calls prog 81 #[.pointer (some b)] w λe g=>e=.returned (.tuple #[])/\g=w.setCell b (.pointer (some b)):=by
 obtain⟨k,a,f⟩:=Option.map_eq_some_iff.1 Tryz.UD;go_enter func81,ntmps81;go_wp2;rw[Lib.run_to_unsafe w b underlying102 underlying171 a (by rw[f];decide) d (Nat.zero_lt_succ 1)];simp only[Result.andThen];rw[Oper.upon_value];go_wp2;rw[run_callFunc_extern func108 Sk Sk Sk (e:=Extern.AbiNoEscape.same) Sk];rw[Lib.run_noEscape];simp only[Result.andThen];rw[Oper.upon_value];go_wp2;rw[Lib.run_from_unsafe w b underlying171 underlying102 a d Tryz.zmn];simp only[Result.andThen];rw[Oper.upon_value];go_wp2;go_end0;exact⟨rfl,rfl⟩
theorem UN (B b:Nat)(f:List Value)(w:Sw)(a:Lib.IsBuilderF 124 5 B b f w):Calls prog 81 #[.pointer (some b)] w λe d=>e=.returned (.tuple #[])/\Lib.BuilderAtF 124 5 B b (.pointer (some b)) f d/\Below B w d/\Lib.OthersKept 5 (some b) w d:=by
 rcases a with a|a
 ·refine(zk2 b w a.cell0 a.shape a.frozen0).mono ?_;rintro e d⟨rfl,rfl⟩;exact⟨rfl,a.used _,(Below.refl B w).setCell (p:=⟨b,0,none⟩) a.1 _,(Lib.OthersKept.refl _ _ _).setCell b rfl _⟩
 refine(zam b w a.cell0).mono ?_;rintro e d⟨rfl,rfl⟩;exact⟨rfl,a,Below.refl B _,Lib.OthersKept.refl _ _ _⟩
theorem NY {w:Sw}{B:Nat}{v:Value}{n:Nat}{o:List Value}(j:w.ownsRowF B 5 1 v n o)(g:Nat)(a:v.ownBlock=some g):∃c d,w.heap[g]?=some (.cells c 5 d):=by
 rcases j.2 with ⟨k,_⟩|⟨h,p,f,d,m,_,l,_⟩
 ·rw[k]at a;simp[Value.ownBlock]at a
 rw[m]at a;have:h=g:=by simpa [Value.ownBlock]using a
 subst this;exact⟨f,d,l⟩
theorem pwrite (B b:Nat)(l:List UInt8)(s:Sb)(w:Sw)(z:Kn B b l w)(aj:l.length+s.size<=1000000000)(ai:B<=w):Calls prog 60 #[.pointer (some b),s] w λe R=>e=.returned (.tuple #[s.size,.nilIface])/\Wrote 124 B b (l++s.data.toList) w R:=by
 obtain⟨i0,D,L,M,N⟩:=info_parts Tryz.PV;have C:=V (UN B b (Lib.byteCells l) w z);go_enter func60,ntmps60;go_wp2_with (go_at_call 81;apply C.m)
 rintro e f⟨rfl,A,k,F⟩;obtain⟨u,r,d,o,K⟩:=A;have W:f.cell? b=some (.pointer (some b)):=by rw[Lib.cell_of_heap d];rfl
 have aa:f.cell? (b 1)=some r:=by rw[Lib.cell_of_heap d];rfl
 have G:=Lib.byteCells_length l;go_wp2_with (at_builtin;refine Lib.wpList_append_own_stringF _ rfl _ _ 45 9 rfl B 5 i0 underlying45 underlying9 D L M N _ _ _ rfl o s rfl ?c3 ?c4 ?c5 ?_)
 case c3=>unfold maxLen;omega
 case c4=>omega
 case c5=>have:=k.size;omega
 intro Q g v m _;have H:b<f:=by
  rcases Nat.lt_or_ge b f.heap.size with j|j
  ·exact j
  simp[Array.getElem?_eq_none j]at d
 have a:g.heap[b]?=some (.cells #[.pointer (some b),r] 124 (0,0)):=by
  rw[m.block b H (λe=>K e.symm)];exact d
 have ac:g.cell? b=some (.pointer (some b)):=by rw[Lib.cell_of_heap a];rfl
 have ae:g.cell? (b 1)=some r:=by rw[Lib.cell_of_heap a];rfl
 have af:=Lib.frozen_of_heap a 1;obtain⟨t,y,h,rfl⟩:∃t y h,Q=.slice t y h:=by
  rcases v.2 with ⟨q,_⟩|⟨ah,h,ab,ag,q,_⟩
  ·exact⟨_,_,_,q⟩
  exact⟨_,_,_,q⟩
 go_wp2;go_ret2;refine⟨rfl,?_,?_,?_⟩
 ·have x:=Lib.BuilderAtF.put (T:=124) (e:=5) u a (bs':=Lib.byteCells l++Lib.strCells s) (by simpa [Lib.strCells_length,G]using v) J;rw[Lib.strCells_eq,<-Lib.byteCells_append]at x;exact .inr x
 ·exact(k.grown m (by have:=k.size;omega) (λP E=>(o.lt P E).1)).setCell (p:=⟨b,1,none⟩) u _
 exact(F.grown m (NY o)).setCell (b 1) rfl _
theorem DV (B b:Nat)(l:List UInt8)(c:UInt8)(w:Sw)(y:Kn B b l w)(ak:l.length+1<=1000000000)(aj:B<=w):Calls prog 151 #[.pointer (some b),.int .u8 (c.toNat:Int)] w λe aa=>e=.returned .nilIface/\Wrote 124 B b (l++[c]) w aa:=by
 obtain⟨i0,C,L,M,N⟩:=info_parts Tryz.PV;have A:=V (UN B b (Lib.byteCells l) w y);go_enter func151,ntmps151;go_wp2_with (go_at_call 81;apply A.m)
 rintro e a⟨rfl,z,g,E⟩;obtain⟨t,s,j,r,H⟩:=z;have ab:a.cell? b=some (.pointer (some b)):=by rw[Lib.cell_of_heap j];rfl
 have c1:a.cell? (b 1)=some s:=by rw[Lib.cell_of_heap j];rfl
 have F:=Lib.byteCells_length l;go_wp2_with (at_builtin;refine wpList_append_ownF _ rfl _ _ 45 rfl B 5 i0 (.int .u8 0) 1 1 underlying45 C L M N rfl J _ _ _ rfl (r.alloc _) a 1 1 [.int .u8 (c.toNat:Int)] rfl rfl ?c1 ?c2 ?c3 ?c4 ?c5 ?_)
 case c1=>
  intro P R k;match P,k with
  |0,k=>simp at k;subst k;simp[Addr.add]
 case c2=>intro R x;simp at x;subst x;rfl
 case c3=>unfold maxLen;omega
 case c4=>omega
 case c5=>have:=g.size;simp;omega
 intro W m u q _;have G:b<a:=by
  rcases Nat.lt_or_ge b a.heap.size with o|o
  ·exact o
  simp[Array.getElem?_eq_none o]at j
 have h:m.heap[b]?=some (.cells #[.pointer (some b),s] 124 (0,0)):=by
  rw[q.block b (by simp;omega) (λe=>H e.symm),Sqj _ _ _ G];exact j
 have ae:m.cell? b=some (.pointer (some b)):=by rw[Lib.cell_of_heap h];rfl
 have af:m.cell? (b 1)=some s:=by rw[Lib.cell_of_heap h];rfl
 have ag:=Lib.frozen_of_heap h 1;obtain⟨f,d,rfl⟩:∃f d,W=.slice (some ⟨f,0,none⟩) (l.length+1) d:=by
  rcases u.2 with ⟨_,ai⟩|⟨f,d,ac,ah,K,_⟩
  ·omega
  exact⟨f,d,K⟩
 go_wp2;go_ret;refine⟨rfl,?_,?_,?_⟩
 ·have v:=Lib.BuilderAtF.put (T:=124) (e:=5) t h (bs':=Lib.byteCells l++[.int .u8 (c.toNat:Int)]) (by simpa [F]using u) J;rw[show (Lib.byteCells l++[.int .u8 (c.toNat:Int)])=Lib.byteCells (l++[c]) by rw[Lib.byteCells_append];rfl]at v;exact .inr v
 ·exact((g.alloc (by have:=g.size;omega) _).grown q (by have:=g.size;simp;omega) (λQ D=>(r.lt Q D).1)).setCell (p:=⟨b,1,none⟩) t _
 exact((E.alloc _).grown q (NY (r.alloc _))).setCell (b 1) rfl _
theorem pstring (B b:Nat)(l:List UInt8)(w:Sw)(h:Kn B b l w)(k:l≠[]):Calls prog 61 #[.pointer (some b)] w λe C=>e=.returned (S.B l)/\Below B w C:=by
 obtain⟨p,F,A,o,j,N⟩:∃p,Lib.BuilderAtF 124 5 B b p (Lib.byteCells l) w:=by
  rcases h with h|h
  ·exact⟨_,h⟩
  exact⟨_,h⟩
 have t:l.length≠0:=by simpa using k
 rw[Lib.byteCells_length]at j;obtain⟨g,a,d,f,rfl,m,r,L,M,q,K,P⟩:∃g a d f,A=.slice (some ⟨g,0,none⟩) l.length a/\B<=g/\w.heap[g]?=some (.cells d 5 f)/\f.2<=l.length*1/\l.length<=a/\a<=maxLen/\d.size=a*1/\d.toList.take (l.length*1)=Lib.byteCells l:=by
  rcases j.2 with ⟨_,x⟩|⟨g,a,d,f,u,z⟩
  ·exact absurd x t
  exact⟨g,a,d,f,u,z⟩
 have E:w.drew.cell? (b 1)=some (.slice (some ⟨g,0,none⟩) l.length a):=by
  have:w.drew.heap[b]?=some (.cells #[p,.slice (some ⟨g,0,none⟩) l.length a] 124 (0,0)):=o;rw[Lib.cell_of_heap this];rfl
 have G:(Builtin.unsafeSliceData_ #[45] 137 #[.slice (some ⟨g,0,none⟩) l.length a]).run prog w.drew=.ok (.pointer (some ⟨g,0,none⟩)) w.drew:=
  Lib.run_unsafeSliceData_row _ _ _ _ _ _ Z
 have H:(Builtin.unsafeString_ #[137,3] 9 #[.pointer (some ⟨g,0,none⟩),l.length]).run prog w.drew=.ok (.string ⟨l.toArray⟩) (w.drew.freeze ⟨g,0,none⟩ l.length):=by
  refine Lib.run_unsafeString_row w.drew 137 3 9 5 underlying137 Tryz.zmx g d.size (by have s:w.drew.heap[g]?=some (.cells d 5 f):=r;simp[World.shape?,s]) l k Z (by unfold maxLen at q;omega) ?_;intro y D v;exact j.cells (g:=g) rfl y (.int .u8 D.toNat) (by simp[Lib.byteCells,v])
 go_enter func61,ntmps61;go_wp2;go_region
 all_goals (go_wp2;go_ret;exact⟨rfl,Lib.below_freeze (Below.drew (Below.refl B w)) (p:=⟨g,0,none⟩) m _⟩)
theorem XV (b:Nat)(w:Sw)(d:w.heap[b]?=some (.cells #[.pointer none,Sx] 124 (0,0))):Calls prog 61 #[.pointer (some b)] w λe f=>e=.returned (.string ⟨#[]⟩)/\Below w w f:=by
 have g:w.drew.cell? (b 1)=some (.slice none 0 0):=by
  have:w.drew.heap[b]?=some (.cells #[.pointer none,Sx] 124 (0,0)):=d;rw[Lib.cell_of_heap this];rfl
 have h:(Builtin.unsafeSliceData_ #[45] 137 #[Sx]).run prog w.drew=.ok (.pointer none) w.drew:=rfl;have j:=λa:World=>Lib.run_unsafeString_none (P:=prog) a 137 3 9 none;go_enter func61,ntmps61;go_wp2;go_region
 all_goals (go_wp2;go_ret;exact⟨rfl,Below.drew (Below.refl _ w)⟩)
theorem zg1 (w:Sw):Kn w w.heap.size [] (w.alloc (.cells #[.pointer none,Sx] 124)):=by
 refine Lib.IsBuilderF.of (.inl ⟨Qc _,.slice none 0 0,Ak _ _,Sqg _ _ _ _,?_⟩);simp[Value.ownBlock]
namespace S
def M6 (b:UInt8):List UInt8:=if b=38 then [38,97,109,112,59]else if b=60 then [38,108,116,59]else if b=62 then [38,103,116,59]else if b=34 then [38,113,117,111,116,59]else [b]
def Bd (l:List UInt8):List UInt8:=(l.map M6).flatten
theorem zdr (b:UInt8)(l:List UInt8):Bd (b::l)=M6 b++Bd l:=by simp[Bd]
theorem zcq (a b:List UInt8):Bd (a++b)=Bd a++Bd b:=by simp[Bd]
theorem YT (b:UInt8):(M6 b).length<=6:=by unfold M6;split<;>(try split)<;>(try split)<;>(try split)<;>simp
theorem Gu (l:List UInt8):(Bd l).length<=6*l.length:=by
 induction l with
 |nil=>simp[Bd]
 |cons b l a=>rw[zdr,Qa,Qd];have:=YT b;omega
theorem WH (l:List UInt8)(k:Nat)(b:UInt8)(a:l[k]?=some b):Bd (l.take (k+1))=Bd (l.take k)++M6 b:=by
 rw[Sv,a,zcq];simp[Bd]
end S
theorem WC (B b:Nat)(l:List UInt8)(s:Sb)(w:Sw)(x:Kn B b l w)(W:l.length+6*s.size<=1000000000)(E:B<=w):Calls prog 195 #[.pointer (some b),s] w λe o=>e=.returned (.tuple #[])/\Wrote 124 B b (l++S.Bd s) w o:=by
 have F:=V (Wrote.refl x);clear x;go_enter func195,ntmps195;go_wp2;go_loopw [4,5,8] (λ_ _ i wr=>∃a:Nat,a<=s.size/\i=.int .i64 a/\U (Wrote 124 B b (l++S.Bd (s.data.toList.take a)) w wr)) (λ_ _ i _=>s.size-(intOf i).toNat)
 case atStart=>exact⟨0,Qt _,rfl,by simpa [S.Bd]using F⟩
 case round=>
  obtain⟨a,T,rfl,m⟩:=hrel;have y:B<=wr:=Qj E m.q.2.1.size;by_cases M:a<s.size
  ·have A:s.data.toList[a]?=some s[a]:=S.Bz s a M;have v:=V (S.WH _ a _ A);have L:=S.Gu (s.data.toList.take a);rw[Ql,S.lda]at L;have H:s[a].toNat<256:=s[a].toNat_lt;obtain⟨c,d⟩:=Qyy (s[a]);rw[d]at v H;have Q:(0:Int)<=(a:Int):=Z;have R:(a:Int)<(s.size:Int):=Z;have step:∀(q:Sb),S.M6 c=q.data.toList->q.size<=6->U (Calls prog 60 #[.pointer (some b),q] wr λe o=>e=.returned (.tuple #[q.size,.nilIface])/\U (Wrote 124 B b (l++S.Bd (s.data.toList.take (a+1))) w o)):=λq h N=>V ((pwrite B b _ q wr m.q.1 (by rw[Qa];omega) y).mono (λe o ⟨g,j⟩=>⟨g,V (by
    rw[v.q,h,<-Qp];exact m.q.trans j)⟩))
   clear A;by_cases f:c=38
   ·have h:=step ⟨#[38,97,109,112,59]⟩ (by rw[f];rfl) J;have u:s[a].toNat=38:=(by rw[d,f];rfl);clear step f d;go_wp2_with (fail);apply h.m;rintro e r⟨rfl,k⟩;go_wp2;go_roundw
    case rel=>exact⟨a+1,Z,by go_num,k⟩
    case measure=>exact Sj
   by_cases g:c=60
   ·have h:=step ⟨#[38,108,116,59]⟩ (by rw[g];rfl) J;have u:s[a].toNat=60:=(by rw[d,g];rfl);have t:(((s[a].toNat:Nat):Int) == 38)=false:=(by rw[Qe,d];intro e;exact f (Qk.1 (SX.1 e)));clear step f g d;go_wp2_with (fail);apply h.m;rintro e r⟨rfl,k⟩;go_wp2;go_roundw
    case rel=>exact⟨a+1,Z,by go_num,k⟩
    case measure=>exact Sj
   by_cases j:c=62
   ·have h:=step ⟨#[38,103,116,59]⟩ (by rw[j];rfl) J;have u:s[a].toNat=62:=(by rw[d,j];rfl);have t:(((s[a].toNat:Nat):Int) == 38)=false:=(by rw[Qe,d];intro e;exact f (Qk.1 (SX.1 e)));have z:(((s[a].toNat:Nat):Int) == 60)=false:=(by rw[Qe,d];intro e;exact g (Qk.1 (SX.1 e)));clear step f g j d;go_wp2_with (fail);apply h.m;rintro e r⟨rfl,k⟩;go_wp2;go_roundw
    case rel=>exact⟨a+1,Z,by go_num,k⟩
    case measure=>exact Sj
   by_cases p:c=34
   ·have h:=step ⟨#[38,113,117,111,116,59]⟩ (by rw[p];rfl) J;have u:s[a].toNat=34:=(by rw[d,p];rfl);have t:(((s[a].toNat:Nat):Int) == 38)=false:=(by rw[Qe,d];intro e;exact f (Qk.1 (SX.1 e)));have z:(((s[a].toNat:Nat):Int) == 60)=false:=(by rw[Qe,d];intro e;exact g (Qk.1 (SX.1 e)));have G:(((s[a].toNat:Nat):Int) == 62)=false:=(by rw[Qe,d];intro e;exact j (Qk.1 (SX.1 e)));clear step f g j p d;go_wp2_with (fail);apply h.m;rintro e r⟨rfl,k⟩;go_wp2;go_roundw
    case rel=>exact⟨a+1,Z,by go_num,k⟩
    case measure=>exact Sj
   have h:U (Calls prog 151 #[.pointer (some b),.int .u8 (s[a].toNat:Int)] wr λe o=>e=.returned .nilIface/\U (Wrote 124 B b (l++S.Bd (s.data.toList.take (a+1))) w o)):=V (by
    rw[d];exact(DV B b _ c wr m.q.1 (by rw[Qa];omega) y).mono (λe o ⟨C,D⟩=>⟨C,V (by
     rw[v.q,<-Qp,show S.M6 c=[c] by unfold S.M6;rw[if_neg f,if_neg g,if_neg j,if_neg p]];exact m.q.trans D)⟩))
   have t:(((s[a].toNat:Nat):Int) == 38)=false:=by rw[Qe,d];intro e;exact f (Qk.1 (SX.1 e))
   have z:(((s[a].toNat:Nat):Int) == 60)=false:=by rw[Qe,d];intro e;exact g (Qk.1 (SX.1 e))
   have G:(((s[a].toNat:Nat):Int) == 62)=false:=by rw[Qe,d];intro e;exact j (Qk.1 (SX.1 e))
   have P:(((s[a].toNat:Nat):Int) == 34)=false:=by rw[Qe,d];intro e;exact p (Qk.1 (SX.1 e))
   clear step f g j p d;go_wp2_with (fail);apply h.m;rintro e r⟨rfl,k⟩;go_wp2;go_roundw
   case rel=>exact⟨a+1,Z,by go_num,k⟩
   case measure=>exact Sj
  have K:U (Wrote 124 B b (l++S.Bd s) w wr):=by
   have:a=s.size:=Z;subst this;rw[Qbj (by rw[S.lda];omega)]at m;exact m
  go_wp2;go_end0;exact⟨rfl,K.q⟩
def Jp:Pt->Nat
 |.mk _ i d Ab _ _ _=>1+i.length+d.length+Ca Ab
 where
 Ca:List Pt->Nat
 |[]=>0
 |p::a=>Jp p+Ca a
abbrev Ca:=Jp.Ca
theorem Vy (p:Pt):Jp p=1+p.info.length+p.text.length+Ca p.Ab:=by cases p;rfl
theorem U8:Ca []=0:=rfl
theorem H9 (p:Pt)(r:List Pt):Ca (p::r)=Jp p+Ca r:=rfl
theorem Nr (a b:List Pt):Ca (a++b)=Ca a+Ca b:=by
 induction a with
 |nil=>simp[Jp.Ca]
 |cons f g d=>simp only[List.cons_append,H9,d];omega
theorem Z9 (p:Pt)(t:List UInt8):Jp (p.Au t)+p.text.length=Jp p+t.length:=by
 cases p with
 |mk f i a Ab g d b=>show 1+i.length+t.length+Ca Ab+a.length=1+i.length+a.length+Ca Ab+t.length;omega
theorem UH (f:Nat)(l:List Pt):Ca (D8 f l)<=Ca l:=by
 induction f generalizing l with
 |zero=>exact Qt _
 |succ f d=>
  cases l with
  |nil=>exact Qc _
  |cons g h=>
   simp only[D8];split
   ·split
    ·have:=d h;rw[H9];omega
    cases h with
    |nil=>exact Qc _
    |cons a j=>
     dsimp only;split
     ·have:=d (a.Au (g.text++a.text)::j);have k:=Z9 a (g.text++a.text);rw[Qa]at k;have m:=Vy g;rw[H9]at this;rw[H9,H9];omega
     have:=d (a::j);rw[H9,H9];omega
   have:=d h;rw[H9,H9];omega
theorem zi0 (f:Nat)(L:List Pt)(s:Pt):Ca ((Dr f L s).1++[(Dr f L s).2])<=Ca (L++[s]):=by
 induction f generalizing L s with
 |zero=>exact Qc _
 |succ f p=>
  simp only[Dr];split
  ·rename_i k;cases j:Fw s L with
   |none=>exact Qc _
   |some r=>
    obtain⟨q,a,d⟩:=r;dsimp only;refine Qj (p _ _) ?_;obtain⟨h,g⟩:=Tq s L q a d j;subst h;have m:a.text≠[]:=by
     intro e;unfold opens at g;rw[e]at g;simp at g
    have x:0<a.text.length:=Qbf.2 m;have u:0<s.text.length:=Qbf.2 k.2;have y:1<=Cm a s:=(by unfold Cm;split<;>omega);have t:=UH d.length d;have v:Jp (La (Cm a s) d)<=1+Ca d:=by
     rw[Vy];show 1+0+0+Ca (F7 d)<=_;unfold F7;omega
    have o:=Z9 a (a.text.drop (Cm a s));have l:=Z9 s (s.text.drop (Cm a s));rw[Qf]at o l;simp only[Nr,H9,U8];omega
  exact Qc _
theorem ZI (L l:List Pt):Ca (Ic L l)<=Ca (L++l):=by
 induction l generalizing L with
 |nil=>simp[Ic]
 |cons a f d=>
  simp only[Ic];refine Qj (d _) ?_;have:=zi0 a.text.length L a;simp only[Nr,H9,U8]at this ⊢;omega
theorem WO (l:List Pt):Ca (He l)<=Ca l:=by
 unfold He F7;have d:=UH (pairT l).length (pairT l);have a:=ZI [] l;rw[SY]at a;unfold pairT at *;omega
theorem II (d:Sb)(a k:Nat):Ca (D6 d a k)<=2*(k-a):=by
 unfold D6;split
 ·have:((d.data.toList.drop a).take (k-a)).length<=k-a:=by rw[Ql];omega
  rw[H9,U8];show 1+0+((d.data.toList.drop a).take (k-a)).length+0+0<=_;omega
 exact Qt _
def H8 (s:St):Prop:=Ca s.ps<=3*s.f/\s.f<=s.k
theorem H8.text {s:St}(a:H8 s)(n:Nat):H8 (s.text n):=⟨a.1,by have:=a.2;show s.f<=s.k+n;omega⟩
theorem H8.skip {s:St}(d:H8 s)(a:Sb)(n:Nat):H8 (s.skip a n):=by
 refine⟨?_,Qc _⟩;have f:=II a s.f s.k;have g:=d.1;have h:=d.2;show Ca (s.ps++D6 a s.f s.k)<=3*(s.k+n);rw[Nr];omega
theorem H8.lay {s:St}(d:H8 s)(a:Sb)(p:Pt)(n:Nat)(j:Jp p<=3*n):H8 (s.lay a p n):=by
 refine⟨?_,Qc _⟩;have f:=II a s.f s.k;have g:=d.1;have h:=d.2;show Ca ((s.ps++D6 a s.f s.k)++[p])<=3*(s.k+n);rw[Nr,Nr,H9,U8];omega
theorem DC (k:Int)(i t:List UInt8)(z:Nat)(a b:Bool):Jp (.mk k i t [] z a b)=1+i.length+t.length:=rfl
theorem zkc (l:List Pt)(a:Nat):Ca (l.take a)+Ca (l.drop (a+1))<=Ca l:=by
 have d:Ca l=Ca (l.take a)+Ca (l.drop a):=by rw[<-Nr,Sy]
 rw[d];cases hd:l.drop a with
 |nil=>rw[<-Qbb,hd];simp[Jp.Ca]
 |cons g f=>rw[<-Qbb,hd,H9];show _+Ca f<=_;omega
theorem H8.open {s:St}(d:H8 s)(a:Sb)(t:List UInt8)(f:Bool)(g:1<=t.length):H8 (s.open a t f):=by
 have:=H8.lay d a (Db t) t.length (by unfold Db;rw[DC];simp only[Qi];omega);exact this
theorem H8.Ci {s:St}(d:H8 s)(a:Sb):H8 (s.Ci a).2:=by
 unfold St.Ci;split
 ·unfold St.close;split
  ·exact d
  rename_i f _;split
  ·refine⟨?_,Qc _⟩;have h:=II a s.f s.k;have j:=d.1;have k:=d.2;have l:=zkc s.ps f.j;have g:=WO (s.ps.drop (f.j+1)++D6 a s.f s.k);rw[Nr]at g;show Ca (s.ps.take f.j++[Nv _ f.image (s.ps.drop (f.j+1)++D6 a s.f s.k)])<=3*(s.k+(3+_));rw[Nr,H9,U8,Vy];show Ca (s.ps.take f.j)+(1+(S.addrOf (a.data.toList.drop (s.k+1))).length+0+Ca (He (s.ps.drop (f.j+1)++D6 a s.f s.k))+0)<=3*(s.k+(3+(S.addrOf (a.data.toList.drop (s.k+1))).length));omega
  exact d
 split
 ·exact d.open a _ _ J
 split
 ·exact d.open a _ _ J
 exact d
theorem H8.step {s:St}(d:H8 s)(a:Sb)(f:s.k<a.size):H8 (step a s):=by
 rw[Kz a s f];have k:=Nh a s.k f;unfold J3;split
 ·split
  ·exact d.lay a _ _ J
  split
  ·exact(d.skip a 1).text 1
  exact d.text 1
 split
 ·split
  ·rename_i h g;have j:=S.Y5 _ _ _ (by rw[Qf,S.lda];omega) g;refine d.lay a _ _ ?_;unfold Me;rw[DC];have:=S.BJ ((a.data.toList.drop (s.k+S.same (a.data.toList.drop s.k))).take (h-S.same (a.data.toList.drop s.k)));rw[Ql]at this;show 1+0+(S.Ip _).length<=_;omega
  exact d.text _
 split
 ·split
  ·split
   ·exact d.lay a _ _ (by show 1+0+0+0<=_;omega)
   exact d.lay a _ _ (by show 1+0+0+0<=_;omega)
  exact d.text _
 split
 ·exact d.lay a _ _ J
 split
 ·split
  ·refine d.lay a _ _ ?_;show 1+List.length _+0+(1+0+List.length _+0+0)<=3*(List.length _+_);omega
  exact d.text 1
 split
 ·refine d.lay a _ _ ?_;unfold Ld;rw[DC];show 1+0+((a.data.toList.drop s.k).take _).length<=_;rw[Ql];omega
 split
 ·split
  ·exact d.Ci a
  exact(d.Ci a).text 1
 exact d.text 1
theorem zjv (d:Sb)(s:St)(r:List Pt)(a:Ends d s r)(f:H8 s):Ca r<=3*d.size:=by
 induction a with
 |done s a=>rw[<-a];have:=(f.skip d 0).1;exact this
 |go s r a h g=>exact g (f.step d a)
theorem Y1 (c:List UInt8):Ca (Ey c)<=3*c.length:=by
 by_cases f:∃a,Ends (S.B c) Ki a
 ·obtain⟨a,d⟩:=f;rw[Ut c a d];have h:=WO a;have g:=zjv _ _ _ d ⟨Qc _,Qc _⟩;rw[S.Bc]at g;omega
 unfold Ey;rw[dif_neg f];exact Qt _
namespace S
def word (l:List UInt8):List UInt8:=(Lib.cut l [32]).1
end S
mutual
def K4:Pt->List UInt8
 |.mk a _ f Ab _ _ _=>if a=8\/a=11 then f else if a=9\/a=10 then [32]else Dc Ab
def Dc:List Pt->List UInt8
 |[]=>[]
 |p::d=>K4 p++Dc d
end
theorem YL (p:Pt):K4 p=if p.kind=8\/p.kind=11 then p.text else if p.kind=9\/p.kind=10 then [32]else Dc p.Ab:=by cases p;simp only[K4];rfl
theorem zjz (a b:List Pt):Dc (a++b)=Dc a++Dc b:=by
 induction a with
 |nil=>simp[Dc]
 |cons f g d=>simp only[List.cons_append,Dc,d,Qp]
mutual
theorem zgq:∀a:Pt,(K4 a).length<=Jp a
 |.mk l i g Ab _ _ _=>by
  have h:=U0 Ab;simp only[K4];show _<=1+i.length+g.length+Ca Ab;split
  ·omega
  split
  ·simp only[List.length_singleton];omega
  omega
theorem U0:∀d:List Pt,(Dc d).length<=Ca d
 |[]=>by simp[Dc]
 |a::f=>by
  have j:=zgq a;have k:=U0 f;simp only[Dc,Qa,H9];omega
end
mutual
def Ij:Pt->List UInt8
 |.mk a i d Ab _ _ _=>
  if a=8 then S.Bd d
  else if a=9 then [10]
  else if a=10 then [60,98,114,62,10]
  else if a=11 then [60,99,111,100,101,62]++S.Bd d++[60,47,99,111,100,101,62]
  else if a=12 then [60,97,32,104,114,101,102,61,34]++S.Bd i++([34,62]++Ew Ab++[60,47,97,62])
  else if a=13 then [60,105,109,103,32,115,114,99,61,34]++S.Bd i++[34,32,97,108,116,61,34]++S.Bd (Dc Ab)++[34,62]
  else if a=14 then [60,101,109,62]++Ew Ab++[60,47,101,109,62]
  else if a=15 then [60,115,116,114,111,110,103,62]++Ew Ab++[60,47,115,116,114,111,110,103,62]
  else []
def Ew:List Pt->List UInt8
 |[]=>[]
 |p::f=>Ij p++Ew f
end
theorem YX (p:Pt):Ij p =
  if p.kind=8 then S.Bd p.text
  else if p.kind=9 then [10]
  else if p.kind=10 then [60,98,114,62,10]
  else if p.kind=11 then [60,99,111,100,101,62]++S.Bd p.text++[60,47,99,111,100,101,62]
  else if p.kind=12 then [60,97,32,104,114,101,102,61,34]++S.Bd p.info++([34,62]++Ew p.Ab++[60,47,97,62])
  else if p.kind=13 then [60,105,109,103,32,115,114,99,61,34]++S.Bd p.info++[34,32,97,108,116,61,34]++S.Bd (Dc p.Ab)++[34,62]
  else if p.kind=14 then [60,101,109,62]++Ew p.Ab++[60,47,101,109,62]
  else if p.kind=15 then [60,115,116,114,111,110,103,62]++Ew p.Ab++[60,47,115,116,114,111,110,103,62]
  else []:=by cases p;simp only[Ij];rfl
theorem zgl (a b:List Pt):Ew (a++b)=Ew a++Ew b:=by
 induction a with
 |nil=>simp[Ew]
 |cons f g d=>simp only[List.cons_append,Ew,d,Qp]
mutual
theorem zdg:∀a:Pt,(Ij a).length<=30*Jp a
 |.mk p i f Ab _ _ _=>by
  have j:=Vs Ab;have g:=S.Gu f;have l:=S.Gu i;have m:=S.Gu (Dc Ab);have o:=U0 Ab;simp only[Ij];show _<=30*(1+i.length+f.length+Ca Ab);(repeat' split)<;>(try simp only[Qa,Qd,Qi])<;>omega
theorem Vs:∀d:List Pt,(Ew d).length<=30*Ca d
 |[]=>by simp[Ew]
 |a::h=>by
  have k:=zdg a;have g:=Vs h;simp only[Ew,Qa,H9];omega
end
noncomputable def Bg (c:List UInt8):List UInt8:=Ew (Ey c)
theorem zh4 (c:List UInt8):(Bg c).length<=90*c.length:=by
 have a:=Vs (Ey c);have d:=Y1 c;unfold Bg;omega
def I4 (n:Int):List UInt8:=if 0<=n then [111,108]else [117,108]
def J7 (n:Int):List UInt8:=if 0<=n/\n≠1 then [32,115,116,97,114,116,61,34]++Lib.itoa n++[34]else []
mutual
def Gs (a:List UInt8->List UInt8) (d:Bool):S.Ac->List UInt8
 |.at_ _ f n info text Ai Ab=>
  if f=1 then (if d=true then a text++[10]else [60,112,62]++a text++[60,47,112,62,10])
  else if f=2 then [60,104]++Lib.itoa n++[62]++a text++([60,47,104]++Lib.itoa n++[62,10])
  else if f=3 then [60,112,114,101,62,60,99,111,100,101]++(if info=[]then []else [32,99,108,97,115,115,61,34]++S.Bd (S.word info)++[34])++[62]++S.Bd text++[60,47,99,111,100,101,62,60,47,112,114,101,62,10]
  else if f=4 then [60,104,114,62,10]
  else if f=5 then [60,113,117,111,116,101,62,10]++Cy a false Ab++[60,47,113,117,111,116,101,62,10]
  else if f=6 then [60]++I4 n++J7 n++[62,10]++Es a (!Ai) Ab++([60,47]++I4 n++[62,10])
  else []
def Cy (a:List UInt8->List UInt8) (d:Bool):List S.Ac->List UInt8
 |[]=>[]
 |b::g=>Gs a d b++Cy a d g
def Es (a:List UInt8->List UInt8) (d:Bool):List S.Ac->List UInt8
 |[]=>[]
 |b::g=>Oe a d b++Es a d g
def Oe (a:List UInt8->List UInt8) (d:Bool):S.Ac->List UInt8
 |.at_ _ _ _ _ _ _ Ab=>[60,108,105,62,10]++Cy a d Ab++[60,47,108,105,62,10]
end
theorem ZK (d:List UInt8->List UInt8)(f:Bool)(a b:List S.Ac):Cy d f (a++b)=Cy d f a++Cy d f b:=by
 induction a with
 |nil=>simp[Cy]
 |cons h j g=>simp only[List.cons_append,Cy,g,Qp]
theorem zjc (d:List UInt8->List UInt8)(f:Bool)(a b:List S.Ac):Es d f (a++b)=Es d f a++Es d f b:=by
 induction a with
 |nil=>simp[Es]
 |cons h j g=>simp only[List.cons_append,Es,g,Qp]
