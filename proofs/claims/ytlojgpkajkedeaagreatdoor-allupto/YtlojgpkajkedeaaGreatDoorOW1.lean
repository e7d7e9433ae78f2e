import Derived.Test.YtlojgpkajkedeaaGreatDoorOStr
import Derived.Test.YtlojgpkajkedeaaGreatDoorRows
import Derived.WalkKit
import Derived.WalkSpells
import Derived.WalkLawsBesides
set_option maxHeartbeats 0
set_option maxRecDepth 100000
namespace Go.Proofs.YtlojgpkajkedeaaGreatDoor
open Go.RowKit
abbrev So:=Option Addr
abbrev Sw:=World
structure Sz
structure Sn
def O:Sz:=⟨⟩
def Sx:Sn:=⟨⟩
theorem Sk {p:Prop}(h:p:=by kernel_rfl):p:=h
theorem Sj {p:Prop}(h:p:=by simp[intOf];omega):p:=h
theorem Sr {B:Nat}{w:World}:Below B w w:=Below.refl _ _
instance:Coe Sz Value:=⟨λ_=>.int .i64 0⟩
instance:Coe Sn Value:=⟨λ_=>.slice none 0 0⟩
instance:Coe Unit Value:=⟨λ_=>.string ⟨#[]⟩⟩
instance:CoeFun Nat (λ_=>Nat->Option Nat->Addr):=⟨Addr.mk⟩
instance:CoeFun World (λ_=>Nat->Option Nat->Addr):=⟨λw=>Addr.mk w.heap.size⟩
instance:Coe (Option Nat->Addr) Addr:=⟨λf=>f none⟩
instance:Coe Int Value:=⟨.int .i64⟩
instance:Coe Nat Value:=⟨λk=>.int .i64 k⟩
instance:Coe ByteArray Value:=⟨.string⟩
instance:Coe Bool Value:=⟨.bool⟩
instance:Coe Nat Addr:=⟨λb=>⟨b,0,none⟩⟩
instance:Coe World Nat:=⟨λw=>w.heap.size⟩
instance:Coe ByteArray (List UInt8):=⟨λs=>s.data.toList⟩
theorem U.m {P:Program}{f:FuncId}{a:Array Value}{w:World}{Q R:Ending->World->Prop}(h:U (Calls P f a w Q))(k:∀e w,Q e w->R e w):Calls P f a w R:=Calls.mono h k
abbrev Sqe:=@IntKind.wrap_i64
abbrev Sqf:=@World.block_lt_of_cell?
abbrev Sqg:=@World.ownsRow_nil
abbrev Sqh:=@Below.setCell
abbrev Sqi:=@Below.grown
abbrev Sqj:=@Below.heap_alloc
abbrev Sqk:=@bodyPost_ret
end Go.Proofs.YtlojgpkajkedeaaGreatDoor
namespace Go.Proofs.YtlojgpkajkedeaaGreatDoor
open Go.RowKit Go.Proofs.Tryz
theorem Bu {k:IntKind}{a b:Int}(d:a=b):Ending.returned (.int k a)=.returned (.int k b):=by rw[d]
theorem Dy {a b:Bool}(d:a=b):Ending.returned a=.returned b:=by rw[d]
theorem V {p:Prop}(a:p):U p:=a
theorem Tf (s:Sb)(c:UInt8)(w:Sw)(p:s.size<=maxLen):Calls prog 165 #[s,.int .u8 (c.toNat:Int)] w λe q=>e=.returned (.int .i64 (S.cnt c s:Nat))/\q=w:=by
 unfold maxLen at p;go_enter func165,ntmps165;go_wp2;go_loop [5] (λi=>∃a:Nat,a<=s.size/\i=.int .i64 a/\∀d,d<a->s.data.toList[d]?=some c) (λi=>s.size-(intOf i).toNat)
 case atStart=>exact⟨0,Qt _,rfl,by intro d m;omega⟩
 case round=>
  obtain⟨a,t,rfl,f⟩:=hrel;by_cases o:a<s.size
  ·have h:=S.Bz s a o;by_cases g:s[a]=c
   ·have k:((s[a].toNat:Int) == (c.toNat:Int))=true:=(by simp[g]);have l:U (∀d,d<a+1->s.data.toList[d]?=some c):=by
     intro d m;by_cases e:d=a
     ·subst e;rw[h,g]
     exact f d Z
    clear h f;go_wp2;exact⟨⟨a+1,Z,by go_num,l.q⟩,by simp[intOf];omega⟩
   have k:((s[a].toNat:Int) == (c.toNat:Int))=false:=by
    rw[Qe];intro r;exact g (Qk.1 Z)
   have j:U (S.cnt c s=a):=S.Wt c _ a f (by rw[h];simpa using g);clear h f;go_wp2;go_ret;exact⟨Bu (by rw[j.q]),rfl⟩
  have j:U (S.cnt c s=a):=S.Wt c _ a f (by rw[Qr (by rw[S.lda];omega)];simp);clear f;go_wp2;go_ret;exact⟨Bu (by rw[j.q]),rfl⟩
theorem Kg (s:Sb)(w:Sw)(d:s.size<=maxLen):Calls prog 112 #[s] w λe a=>e=.returned (.int .i64 (S.Ap s:Nat))/\a=w:=by
 go_enter func112,ntmps112;go_wp2_with (go_at_call 165;refine(Tf _ 32 _ d).mono ?_;rintro e a⟨rfl,rfl⟩)
 go_ret;exact⟨rfl,rfl⟩
theorem Jt (s:Sb)(w:Sw)(f:s.size<=maxLen):Calls prog 111 #[s] w λe a=>e=.returned (.bool (S.Ar s))/\a=w:=by
 have d:U ((((S.Ap s:Nat):Int) == (s.size:Int))=S.Ar s):=by
  apply V;unfold S.Ar;rw[S.lda,SC,Sqb,Sd];omega
 go_enter func111,ntmps111;go_wp2_with (go_at_call 112;refine(Kg _ _ f).mono ?_;rintro e a⟨rfl,rfl⟩)
 go_ret;exact⟨Dy d.q,rfl⟩
theorem Yq (s:Sb)(n:Int)(w:Sw)(f:s.size<=maxLen)(d:0<=n)(h:n<=9223372036854775807):Calls prog 167 #[s,n] w λe g=>∃a:Sb,e=.returned a/\U (a.data.toList=s.data.toList.drop n.toNat)/\a.size<=s.size/\g=w:=by
 unfold maxLen at f;obtain⟨j,rfl⟩:=Int.eq_ofNat_of_zero_le d;go_enter func167,ntmps167;go_wp2
 ·go_ret;exact⟨_,rfl,V (by rw[Qw (by rw[S.lda];omega)];rfl),Qt _,rfl⟩
 go_ret;exact⟨_,rfl,V (by rw[S.Iw]),by rw[Sqc];omega,rfl⟩
theorem Lv (s:Sb)(w:Sw)(a:s.size<=maxLen):Calls prog 168 #[s] w λe h=>∃g:Sb,e=.returned g/\U (g.data.toList=S.Aq s)/\g.size<=s.size/\h=w:=by
 have j:S.Ap s<=s.size:=by have:=S.Jz s;rw[S.lda]at this;exact this
 by_cases hd:4<=S.Ap s
 ·have d:=V (S.Xf _ hd);have f:=a;unfold maxLen at a;go_enter func168,ntmps168;go_wp2_with (go_at_call 112;refine(Kg _ _ f).mono ?_;rintro e h⟨rfl,rfl⟩)
  go_ret;exact⟨_,rfl,V d.q.symm,Qt _,rfl⟩
 have d:=V (S.Yt _ hd);have f:=a;unfold maxLen at a;go_enter func168,ntmps168;go_wp2_with (go_at_call 112;refine(Kg _ _ f).mono ?_;rintro e h⟨rfl,rfl⟩)
 go_ret;exact⟨_,rfl,V (by rw[d.q,S.Iw]),by rw[Sqc];omega,rfl⟩
theorem Y4 (s:Sb)(k:Nat)(w:Sw)(l:k<=s.size):Calls prog 171 #[s,k] w λe j=>e=.returned (.bool (S.Fa s k))/\j=w:=by
 by_cases a:k=s.size
 ·have f:U (S.Fa s k=true):=V (by unfold S.Fa;rw[S.lda];simp[a]);have g:((k:Int) == (s.size:Int))=true:=by simp[a]
  clear a;go_enter func171,ntmps171;go_wp2;go_ret;exact⟨Dy f.q.symm,rfl⟩
 have h:k<s.size:=Z;have f:U ((((s[k].toNat:Int)) == 32)=S.Fa s k):=by
  apply V;unfold S.Fa;rw[S.lda,S.Bz s k h,Si a,Bool.false_or,SC,Sqb,Sd]
  constructor
  ·intro d;rw[show s[k]=32 from Qk.1 (by simp;omega)]
  intro d;simp only[Option.some.injEq]at d;rw[d];rfl
 have g:((k:Int) == (s.size:Int))=false:=by rw[Qe];omega
 clear a;go_enter func171,ntmps171;go_wp2;go_ret;exact⟨Dy f.q,rfl⟩
theorem Xn (s:Sb)(w:Sw)(k:s.size<=maxLen):Calls prog 115 #[s] w λe f=>e=.returned (.int .i64 (S.En s:Nat))/\f=w:=by
 go_enter func115,ntmps115;go_wp2_with fail
 refine(Lv _ _ k).mono ?_;rintro e f⟨a,rfl,o,m,rfl⟩;have j:S.cnt 35 a.data.toList<=a.size:=by have:=S.Gf 35 a.data.toList;rw[S.lda]at this;exact this
 have g:U (S.En s=if 6<S.cnt 35 a.data.toList\/S.Fa a (S.cnt 35 a.data.toList)=false then 0 else S.cnt 35 a.data.toList):=V (by unfold S.En;rw[o.q])
 go_wp2_with fail
 refine(Tf a 35 _ (Qj m k)).mono ?_;rintro e p⟨rfl,rfl⟩;by_cases l:6<S.cnt 35 a.data.toList
 ·have d:U (S.En s=0):=V (by rw[g.q,if_pos (.inl l)]);go_wp2;go_ret;exact⟨Bu (by rw[d.q];rfl),rfl⟩
 cases h:S.Fa a (S.cnt 35 a.data.toList)
 ·have d:U (S.En s=0):=V (by rw[g.q,if_pos (.inr h)]);go_wp2_with (go_at_call 171;refine(Y4 a _ _ j).mono ?_;rintro e f⟨rfl,rfl⟩)
  go_ret;exact⟨Bu (by rw[d.q];rfl),rfl⟩
 have d:U (S.En s=S.cnt 35 a.data.toList):=V (by rw[g.q,if_neg (by rw[h];simp;omega)]);go_wp2_with (go_at_call 171;refine(Y4 a _ _ j).mono ?_;rintro e f⟨rfl,rfl⟩)
 go_ret;exact⟨Bu (by rw[d.q]),rfl⟩
theorem KP (s:Sb)(c:UInt8)(w:Sw)(f:s.size<=maxLen):Calls prog 224 #[s,.int .u8 (c.toNat:Int)] w λe j=>e=.returned (.bool (S.rowOf s c))/\j=w:=by
 have l:S.cnt c s<=s.size:=by have:=S.Gf c s;rw[S.lda]at this;exact this
 have d:U (S.rowOf s c=(decide (0<S.cnt c s)&&S.Ar (s.data.toList.drop (S.cnt c s)))):=V rfl;have g:=f;unfold maxLen at f;go_enter func224,ntmps224;go_wp2_with fail
 refine(Tf s c _ g).mono ?_;rintro e k⟨rfl,rfl⟩;by_cases a:0<S.cnt c s
 ·go_wp2_with fail
  refine(Jt _ _ (by rw[Sqc];exact Qj Z g)).mono ?_;rintro e k⟨rfl,rfl⟩;go_wp2;go_ret;exact⟨Dy (by rw[d.q,Sl a,Bool.true_and,Qbj (by rw[Qf,S.lda];omega)]),rfl⟩
 have h:U (S.rowOf s c=false):=V (by rw[d.q,Si a,Bool.false_and]);go_wp2;go_ret;exact⟨Dy h.q.symm,rfl⟩
theorem Uf (s:Sb)(w:Sw)(j:s.size<=maxLen):Calls prog 184 #[s] w λe l=>e=.returned (.int .i64 (S.Ez s:Nat))/\l=w:=by
 go_enter func184,ntmps184;go_wp2_with fail
 refine(Lv _ _ j).mono ?_;rintro e l⟨a,rfl,o,m,rfl⟩;have g:U (S.Ez s=if S.rowOf a 61=true then 1 else if S.rowOf a 45=true then 2 else 0):=V (by unfold S.Ez;rw[o.q])
 have k:=Qj m j;go_wp2_with fail
 refine(KP a 61 _ k).mono ?_;rintro e p⟨rfl,rfl⟩;cases f:S.rowOf a 61
 ·go_wp2_with fail
  refine(KP a 45 _ k).mono ?_;rintro e p⟨rfl,rfl⟩;cases h:S.rowOf a 45
  ·have d:U (S.Ez s=0):=V (by rw[g.q,f,h];rfl);go_wp2;go_ret;exact⟨Bu (by rw[d.q];rfl),rfl⟩
  have d:U (S.Ez s=2):=V (by rw[g.q,f,h];rfl);go_wp2;go_ret;exact⟨Bu (by rw[d.q];rfl),rfl⟩
 have d:U (S.Ez s=1):=V (by rw[g.q,f];rfl);go_wp2;go_ret;exact⟨Bu (by rw[d.q];rfl),rfl⟩
def Row (w:Sw)(b d:Nat)(f:List ByteArray):Prop:=∀i a,f[i]?=some a->w.cell? (b (d+i))=some (.string a)/\a.size<=140737488355328
def dat (d:List ByteArray):List (List UInt8):=d.map (λa=>a.data.toList)
theorem Row.drop {w:Sw}{b d:Nat}{f:List ByteArray}(g:Row w b d f)(k:Nat):Row w b (d+k) (f.drop k):=by
 intro i h a;rw[Qn]at a;have:=g (k+i) h a;rw[Nat.add_assoc];exact this
theorem Row.below {w w':Sw}{n b a:Nat}{h:List ByteArray}(d:Row w b a h)(j:Below n w w')(k:b<n):Row w' b a h:=by
 intro i g f;exact⟨(j.cell (p:=⟨b,a+i,none⟩) k).trans (d i g f).1,(d i g f).2⟩
theorem Iy (a:List ByteArray)(k:Nat):(dat a)[k]?=a[k]?.map (λd=>d.data.toList):=by simp[dat]
theorem Rh (a:List ByteArray)(k:Nat):dat (a.drop k)=(dat a).drop k:=by simp[dat]
theorem Cq (a:List ByteArray):(dat a).length=a.length:=by simp[dat]
theorem Px (b q r:Nat)(d:List ByteArray)(w:Sw)(z:d.length<=140737488355328)(v:Row w b q d):Calls prog 84 #[.slice (some (b q)) d.length r] w λe m=>e=.returned (.int .i64 (S.Az (dat d):Nat))/\m=w:=by
 go_enter func84,ntmps84;go_wp2;go_loop [3] (λi=>∃a:Nat,a<=d.length/\i=.int .i64 a/\∀f,f<a->((dat d)[f]?.map S.Ar)=some true) (λi=>d.length-(intOf i).toNat)
 case atStart=>exact⟨0,Qt _,rfl,by intro f t;omega⟩
 case round=>
  obtain⟨a,y,rfl,g⟩:=hrel;by_cases u:a<d.length
  ·obtain⟨h,k⟩:∃h,d[a]?=some h:=⟨d[a],Qg u⟩;obtain⟨x,A⟩:=v a h k;have p:h.size<=maxLen:=by unfold maxLen;omega
   have j:(dat d)[a]?=some h.data.toList:=by rw[Iy,k];rfl
   cases o:S.Ar h.data.toList
   ·have l:U (S.Az (dat d)=a):=V (S.V3 _ a g (by rw[j,Sq,o];simp));clear j g k;go_wp2_with (go_at_call 111;refine(Jt _ _ p).mono ?_;rintro e m⟨rfl,rfl⟩)
    go_ret;exact⟨Bu (by rw[l.q]),rfl⟩
   have s:U (∀f,f<a+1->((dat d)[f]?.map S.Ar)=some true):=by
    intro f t;by_cases e:f=a
    ·subst e;rw[j,Sq,o]
    exact g f Z
   clear j g k;go_wp2_with (go_at_call 111;refine(Jt _ _ p).mono ?_;rintro e m⟨rfl,rfl⟩)
   exact⟨⟨a+1,Z,by go_num,s.q⟩,by simp[intOf];omega⟩
  have l:U (S.Az (dat d)=a):=V (S.V3 _ a g (by rw[Qr (by rw[Cq];omega)];simp));clear g;go_wp2;go_ret;exact⟨Bu (by rw[l.q]),rfl⟩
theorem zh8 (w:Sw):Calls prog 84 #[Sx] w λe a=>e=.returned O/\a=w:=by
 go_enter func84,ntmps84;go_wp2;refine wp_loop_rounds 1 ?_;rw[rounds_succ];go_wp2;go_ret;exact⟨rfl,rfl⟩
theorem OH (b s t:Nat)(f:List ByteArray)(m:Int)(w:Sw)(A:f.length<=140737488355328)(v:Row w b s f):Calls prog 166 #[.slice (some (b s)) f.length t,m] w λe j=>e=.returned (.int .i64 (S.Da m (dat f):Nat))/\j=w:=by
 go_enter func166,ntmps166;go_wp2;go_loop [5,6] (λn i=>∃a k:Nat,1<=a/\k<=a/\a<=f.length+1/\n=.int .i64 k/\i=.int .i64 a/\S.Da m (dat f)=S.F9 m k a ((dat f).drop a)) (λ_ i=>f.length+1-(intOf i).toNat)
 case atStart=>exact⟨1,1,Z,Z,Z,rfl,rfl,by simp[S.Da]⟩
 case round=>
  obtain⟨a,k,y,D,z,rfl,rfl,d⟩:=hrel;by_cases u:a<f.length
  ·obtain⟨h,o⟩:∃h,f[a]?=some h:=⟨f[a],Qg u⟩;obtain⟨x,C⟩:=v a h o;have l:h.size<=maxLen:=by unfold maxLen;omega
   have r:=S.zit m k a (dat f) h.data.toList (by rw[Iy,o];rfl);rw[r]at d;clear r o;cases p:S.Ar h.data.toList
   ·rw[p,if_neg Y]at d;by_cases q:(S.Ap h.data.toList:Int)<m
    ·rw[if_pos q]at d;have g:=V d;clear d;go_wp2_with (first|(go_at_call 111;refine(Jt _ _ l).mono ?_;rintro e j⟨rfl,rfl⟩)|(go_at_call 112;refine(Kg _ _ l).mono ?_;rintro e j⟨rfl,rfl⟩))
     go_ret;exact⟨Bu (by rw[g.q]),rfl⟩
    rw[if_neg q]at d;have g:=V d;clear d;go_wp2_with (first|(go_at_call 111;refine(Jt _ _ l).mono ?_;rintro e j⟨rfl,rfl⟩)|(go_at_call 112;refine(Kg _ _ l).mono ?_;rintro e j⟨rfl,rfl⟩))
    exact⟨⟨a+1,a+1,Z,Z,Z,by go_num,by go_num,g.q⟩,by simp[intOf];omega⟩
   rw[p,if_pos rfl]at d;have g:=V d;clear d;go_wp2_with (first|(go_at_call 111;refine(Jt _ _ l).mono ?_;rintro e j⟨rfl,rfl⟩)|(go_at_call 112;refine(Kg _ _ l).mono ?_;rintro e j⟨rfl,rfl⟩))
   exact⟨⟨a+1,k,Z,Z,Z,rfl,by go_num,g.q⟩,by simp[intOf];omega⟩
  rw[S.zdf m k a _ (by rw[Cq];omega)]at d;have g:=V d;clear d;go_wp2;go_ret;exact⟨Bu (by rw[g.q]),rfl⟩
