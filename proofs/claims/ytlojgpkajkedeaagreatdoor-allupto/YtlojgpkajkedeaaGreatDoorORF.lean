import Derived.Test.YtlojgpkajkedeaaGreatDoorOW7
import Derived.Test.YtlojgpkajkedeaaGreatDoorORB
set_option maxHeartbeats 0
set_option maxRecDepth 100000
namespace Go.Proofs.YtlojgpkajkedeaaGreatDoor
open Go.RowKit Go.Proofs.Tryz
def RV (l:List UInt8)(k n:Int)(b:Bool)(a:Int):Prop:=(S.Ae l).ok=true->k=((S.Ae l).kind.toNat:Int)/\n=(S.Ae l).Al/\b=(S.Ae l).empty/\a=((S.Ae l).Ao:Int)
def LW (l:List UInt8)(w:Sw)(e:Ending)(w':Sw):Prop:=∃(a n:Int) (b:Bool) (d:Int),e=.returned (.tuple #[.agg #[.int .u8 a,n,b,d],.bool (S.Ae l).ok])/\U (RV l a n b d)/\Below w w w'
def Hg (w:Sw)(N:Nat)(k f:Int)(b:Bool)(d:Int)(a:Sw):Prop:=w.heap.size<N/\a.heap[w.heap.size]?=some (.cells #[.int .u8 0,O,false,O] 150 (0,0))/\a.heap[N]?=some (.cells #[.int .u8 k,f,b,d] 150 (0,0))/\Below w w a
theorem Hg.drew {w:Sw}{N:Nat}{k f:Int}{b:Bool}{d:Int}{g:Sw}(a:Hg w N k f b d g):Hg w N k f b d g.drew:=⟨a.1,a.2.1,a.2.2.1,a.2.2.2.drew⟩
theorem Hg.kind {w:Sw}{N:Nat}{k d:Int}{b:Bool}{a:Int}{h:Sw}(j:Hg w N k d b a h)(f:Int):Hg w N f d b a (h.setCell N (.int .u8 f)):=by
 obtain⟨g,l,m,o⟩:=j;refine⟨g,?_,?_,o.setCell (p:=⟨N,0,none⟩) (Sm g) _⟩;·rw[Below.heap_setCell _ _ _ _ (by show w.heap.size≠N;omega)];exact l
 exact Aj (cs:=[.int .u8 k,.int .i64 d,.bool b,.int .i64 a]) m 0 _
theorem Hg.empty {w:Sw}{N:Nat}{k d:Int}{b:Bool}{a:Int}{h:Sw}(j:Hg w N k d b a h)(f:Bool):Hg w N k d f a (h.setCell (N 2) (.bool f)):=by
 obtain⟨g,l,m,o⟩:=j;refine⟨g,?_,?_,o.setCell (p:=⟨N,2,none⟩) (Sm g) _⟩;·rw[Below.heap_setCell _ _ _ _ (by show w.heap.size≠N;omega)];exact l
 exact Aj (cs:=[.int .u8 k,.int .i64 d,.bool b,.int .i64 a]) m 2 _
theorem Hg.Ao {w:Sw}{N:Nat}{k a:Int}{b:Bool}{f:Int}{h:Sw}(j:Hg w N k a b f h)(g:Int):Hg w N k a b g (h.setCell (N 3) (.int .i64 g)):=by
 obtain⟨d,l,m,o⟩:=j;refine⟨d,?_,?_,o.setCell (p:=⟨N,3,none⟩) (Sm d) _⟩;·rw[Below.heap_setCell _ _ _ _ (by show w.heap.size≠N;omega)];exact l
 exact Aj (cs:=[.int .u8 k,.int .i64 a,.bool b,.int .i64 f]) m 3 _
theorem Y8 {W:Sw}{N T:Nat}{l j g d:Value}(m:W.heap[N]?=some (.cells #[l,j,g,d] T (0,0)))(a f h k:Value):((((W.setCell N a).setCell (N 1) f).setCell (N 2) h).setCell (N 3) k).heap[N]?=some (.cells #[a,f,h,k] T (0,0)):=
 Aj (cs:=[a,f,h,d]) (Aj (cs:=[a,f,g,d]) (Aj (cs:=[a,j,g,d]) (Aj (cs:=[l,j,g,d]) m 0 a) 1 f) 2 h) 3 k
theorem Xa {w W:Sw}(a:Below w w W)(d f g h:Value):Below w w ((((W.setCell w d).setCell (w 1) f).setCell (w 2) g).setCell (w 3) h):=
 (((a.setCell (p:=⟨w,0,none⟩) (Qc _) _).setCell (p:=⟨w,1,none⟩) (Qc _) _).setCell (p:=⟨w,2,none⟩) (Qc _) _).setCell (p:=⟨w,3,none⟩) (Qc _) _
theorem S.UJ (l:List UInt8):S.dec l<=300*10 ^ l.length:=by
 have d:∀(l:List UInt8) (a:Nat),l.foldl (λa b=>a*10+(b.toNat-48)) a<=(a+300)*10 ^ l.length:=by
  intro l;induction l with
  |nil=>intro a;simp
  |cons b l h=>
   intro a;have f:=h (a*10+(b.toNat-48));have j:=b.toNat_lt;rw[List.foldl_cons,Qd,Nat.pow_succ];refine Qj f ?_;have g:a*10+(b.toNat-48)+300<=(a+300)*10:=Z;refine Qj (Nat.mul_le_mul_right _ g) (Nat.le_of_eq ?_);rw[Nat.mul_assoc,Nat.mul_comm 10]
 have:=d l 0;unfold S.dec;simpa using this
theorem S.zbm (l:List UInt8)(n:Nat)(d:n<=S.Ep l)(f:UInt8)(a:l[n]?=some f)(hd:S.I5 f=true):S.Ep l≠n:=by
 induction l generalizing n with
 |nil=>simp at a
 |cons k j h=>
  simp only[S.Ep]at d ⊢;cases n with
  |zero=>simp at a;subst a;rw[if_pos hd];omega
  |succ n=>
   split
   ·rename_i g;rw[if_pos g]at d;have:=h n Z (by simpa using a);omega
   omega
theorem RD (c:UInt8):S.I5 c=true↔(48:Int)<=(c.toNat:Int)/\(c.toNat:Int)<=57:=by
 unfold S.I5;rw[SE,Sd,Sd];omega
theorem Xj (s:Sb)(w:Sw)(bz:s.size<=1000000):Calls prog 93 #[s] w (LW s w):=by
 obtain⟨h,av⟩:=Qzz (w.alloc (.cells #[.int .u8 0,O,false,O] 150));have br:Below w w h:=by rw[av];exact Sr.alloc (Qc _) _
 have c5:h.heap.size=(w:Nat)+1:=by rw[av];simp
 have b2:h.heap[w.heap.size]?=some (.cells #[.int .u8 0,O,false,O] 150 (0,0)):=by rw[av];exact Ak _ _
 obtain⟨K,aw⟩:=Qzz (h.alloc (.cells #[.int .u8 0,(-1:Int),false,O] 150));have aj:U (Hg w h 0 (-1) false 0 K):=V ⟨Z,by rw[aw,Sqj _ _ _ Z];exact b2,by rw[aw];exact Ak _ _,by rw[aw];exact br.alloc Z _⟩;have ce:=V aw;clear aw;have cd:=V av;have ds:=V br;have ee:=V c5;have a1:=V b2;clear av br c5 b2;cases an:S.Aq s.data.toList with
 |nil=>
  have l:U ((S.Ae s).ok=false):=V (by rw[S.Vi _ (.inl (by rw[an];rfl))]);have a6:=V (Um s bz an h);have ap:=X a1.q 0 _ rfl;have aq:=X a1.q 1 _ rfl;have ar:=X a1.q 2 _ rfl;have au:=X a1.q 3 _ rfl;have a4:=Av a1.q;have u:w<h.heap.size:=by have:=ee.q;omega
  clear an;go_enter func93,ntmps93;go_wp2_with fail
  rw[<-cd.q];apply a6.m;rintro e z⟨rfl,rfl⟩;go_wp2;refine Sqk (v:=.tuple #[.agg #[.int .u8 0,O,false,O],false]) (by simp[results,results93,go_sem,ap,aq,ar,au]) rfl ?_;refine⟨0,0,false,0,by rw[l.q],V (λf=>by rw[l.q]at f;cases f),?_⟩;repeat (refine Sqh ?_ Y _)
  exact ds.q
 |cons c6 ek=>
  obtain⟨d,cx,ec,d0,e1,al,a6,cc⟩:=Rl s bz c6 ek an;have ct:=S.zgb d;rw[S.lda]at ct;have bt:=S.PK d;obtain⟨n,E⟩:=Qyy (S.Ep d);have cu:n<d.size->∀f:n<d.size,¬((48:Int)<=(d[n].toNat:Int)/\(d[n].toNat:Int)<=57):=by
   intro _ f hd;rw[<-RD]at hd;have A:=S.Bz d n f;have L:S.Ep d≠n:=S.zbm d n (by rw[E];exact Qc _) d[n] A hd;exact L E
  rw[E]at ct bt;have cg:U (∀a,a<n->∀f:a<d.size,(48:Int)<=(d[a].toNat:Int)/\(d[a].toNat:Int)<=57):=V (λa ck f=>by
   rw[<-RD];apply bt
   have:=S.Bz d a f;exact SN (by rw[Qbe ck];exact this))
  have a0:S.Ae s=if S.Bh d=0\/S.Fa d (S.Bh d)=false then ⟨0,0,0,false,false⟩else ⟨d.data.toList.getD (S.Bh d-1) 0,S.Al (d.data.toList.take (S.Bh d-1)),S.Ap s+S.Bh d+(if S.Ar (d.data.toList.drop (S.Bh d))=true\/5<=S.Ap (d.data.toList.drop (S.Bh d))then 1 else S.Ap (d.data.toList.drop (S.Bh d))),S.Ar (d.data.toList.drop (S.Bh d)),true⟩:=by
   unfold S.Ae;rw[an,cx]
  have d5:U (6<n->(S.Ae s).ok=false):=V (λf=>by rw[a0,if_pos (.inl (S.LC _ (by rw[E];exact f)))]);have dy:U (n=d.size->(S.Ae s).ok=false):=V (λf=>by rw[a0,if_pos (.inl (S.KE _ (by rw[E,S.lda];exact f)))]);have d8:U (∀f:n<d.size,d[n]∉S.Iz n->(S.Ae s).ok=false):=V (λf al=>by
   rw[a0,if_pos (.inl (S.JA _ d[n] (by rw[E];exact S.Bz d n f) (by rw[E];exact al)))])
  have ed:U (∀f:n<d.size,¬6<n->d[n]∈S.Iz n->S.Bh d=n+1):=V (λf a5 al=>by
   rw[S.VT _ d[n] (by rw[E];exact a5) (by rw[E];exact S.Bz d n f) (by rw[E];exact al),E])
  have cw:=V a0;have cv:=V cu;have dg:=V (a6 h);have dn:=V (cc h);have e3:d.size<=1000000:=Z;clear cu bt a6 cc a0 E an cx ec d0;go_enter func93,ntmps93;go_wp2_with fail
  rw[<-cd.q];apply dg.m;rintro e z⟨rfl,rfl⟩;go_wp2_with fail
  apply dn.m;rintro e z⟨rfl,rfl⟩;go_upto_region 6 with fail
  go_loop [6] (λi=>∃a:Nat,a<=n/\i=.int .i64 a) (λi=>n-(intOf i).toNat)
  case atStart=>exact⟨0,Qt _,rfl⟩
  case round=>
   obtain⟨a,ck,rfl⟩:=hrel;by_cases co:a<n
   ·have u:a<d.size:=Z;have df:(a:Int)<(d.size:Int):=Z;have dx:=cg.q a co u;obtain⟨dv,dw⟩:=dx;go_wp2;exact⟨⟨a+1,Z,by go_num⟩,by simp[intOf];omega⟩
   have d3:a=n:=Z;subst d3;clear co;by_cases ak:6<a\/a=d.size
   ·have l:U ((S.Ae s).ok=false):=V (by
     rcases ak with f|f
     ·exact d5.q f
     exact dy.q f)
    have dt:=V ak;clear ak;go_upto_region 6 with fail
    go_cut [34] (λb7 j=>b7=.bool false/\h=j)
    case first=>
     by_cases u:a<d.size
     ·have A:(a:Int)<(d.size:Int):=Z;have aa:=cv.q u u;by_cases bl:(48:Int)<=(d[a].toNat:Int)
      ·have dc:¬(d[a].toNat:Int)<=57:=λf=>aa ⟨bl,f⟩;clear aa;go_wp2;go_meet;exact⟨rfl,rfl⟩
      clear aa;go_wp2;go_meet;exact⟨rfl,rfl⟩
     have A:¬(a:Int)<(d.size:Int):=Z;go_wp2;go_meet;exact⟨rfl,rfl⟩
    case rest=>
    obtain⟨rfl,rfl⟩:=hcut;go_upto_region 9 with fail
    rw[<-ce.q];go_cut [45] (λej j=>ej=.bool true/\K=j)
    case first=>
     by_cases a5:6<a
     ·have L:(6:Int)<(a:Int):=Z;go_wp2;go_meet;exact⟨rfl,rfl⟩
     have L:¬(6:Int)<(a:Int):=Z;have eq:((a:Int) == (d.size:Int))=true:=by
      rcases dt.q with f|f
      ·omega
      rw[Sqb];omega
     go_wp2;go_meet;exact⟨rfl,rfl⟩
    case rest=>
    obtain⟨rfl,rfl⟩:=hcut;have g:=aj.q;have D:=Y8 g.2.1 (.int .u8 0) (.int .i64 (-1)) (.bool false) (.int .i64 0);have W:=V (Xa g.2.2.2 (.int .u8 0) (.int .i64 (-1)) (.bool false) (.int .i64 0));have F:=V D;have bh:=X g.2.2.1 0 _ rfl;have a3:=X g.2.2.1 1 _ rfl;have bi:=X g.2.2.1 2 _ rfl;have bj:=X g.2.2.1 3 _ rfl;have ap:=X g.2.1 0 _ rfl;have aq:=X g.2.1 1 _ rfl;have ar:=X g.2.1 2 _ rfl;have au:=X g.2.1 3 _ rfl;have a4:=Av g.2.1;clear g D;go_wp2;refine Sqk (v:=.tuple #[.agg #[.int .u8 0,(-1:Int),false,O],false]) (by have D:=X F.q 0 _ rfl;have ab:=X F.q 1 _ rfl;have ac:=X F.q 2 _ rfl;have ae:=X F.q 3 _ rfl;simp[results,results93,go_sem,D,ab,ac,ae]) rfl ?_;exact⟨0,-1,false,0,by rw[l.q],V (λf=>by rw[l.q]at f;cases f),W.q⟩
   have a5:¬6<a:=λf=>ak (.inl f);have u:a<d.size:=by
    rcases Nat.lt_or_ge a d.size with f|f
    ·exact f
    exact absurd (.inr Z) ak
   have er:¬(6:Int)<(a:Int):=Z;have es:((a:Int) == (d.size:Int))=false:=by rw[Qe];omega
   have et:(a:Int)<(d.size:Int):=Z;have cp:a<d.size:=u;clear ak;go_upto_region 6 with fail
   go_cut [34] (λb7 j=>b7=.bool false/\h=j)
   case first=>
    by_cases u:a<d.size
    ·have A:(a:Int)<(d.size:Int):=Z;have aa:=cv.q u u;by_cases bl:(48:Int)<=(d[a].toNat:Int)
     ·have dc:¬(d[a].toNat:Int)<=57:=λf=>aa ⟨bl,f⟩;clear aa;go_wp2;go_meet;exact⟨rfl,rfl⟩
     clear aa;go_wp2;go_meet;exact⟨rfl,rfl⟩
    exact absurd cp u
   case rest=>
   obtain⟨rfl,rfl⟩:=hcut;go_upto_region 9 with fail
   rw[<-ce.q];by_cases t:d[a]∈S.Iz a
   ·have cr:=V (ed.q u a5 t);have bv:=S.UJ (d.data.toList.take a);rw[Ql,S.lda,SI (Sm u)]at bv;have eb:10 ^ a<=10 ^ 6:=Nat.pow_le_pow_right J Z;go_upto_region 12 with fail
    go_cut [75] (λb8 j=>b8=.bool false/\K=j)
    case first=>
     by_cases C:a=0
     ·have x:S.Iz a=[45,43,42]:=(by unfold S.Iz;rw[if_pos C]);rw[x]at t;have ao:((a:Int) == 0)=true:=(by rw[Sqb];omega);have b3:¬0<a:=Z;have bw:(d[a].toNat:Int)=45\/(d[a].toNat:Int)=43\/(d[a].toNat:Int)=42:=by
       simp at t;rcases t with f|f|f
       ·exact .inl (by rw[f];rfl)
       ·exact .inr (.inl (by rw[f];rfl))
       exact .inr (.inr (by rw[f];rfl))
      clear x C t;rcases bw with f|f|f
      all_goals
       have ah:=V f;go_wp2;rw[<-ah.q];go_meet;exact⟨by first|rfl|simp[ah.q],rfl⟩
     have x:S.Iz a=[46,41]:=(by unfold S.Iz;rw[if_neg C]);rw[x]at t;have ao:((a:Int) == 0)=false:=(by rw[Qe];omega);have ef:(0:Int)<(a:Int):=Z;have b3:0<a:=Z;have bw:(d[a].toNat:Int)=46\/(d[a].toNat:Int)=41:=by
      simp at t;rcases t with f|f
      ·exact .inl (by rw[f];rfl)
      exact .inr (by rw[f];rfl)
     clear x C t;rcases bw with f|f
     all_goals
      have ah:=V f;go_wp2;rw[<-ah.q];go_meet;exact⟨by first|rfl|(simp[ah.q];done)|(simp;done)|(simp;intro _;exact ah.q),rfl⟩
    case rest=>
    obtain⟨rfl,rfl⟩:=hcut;go_upto_if 78 with fail
    go_cut [9] (λ_ j=>U (Hg w h 0 (S.Al (d.data.toList.take a)) false 0 j))
    case first=>
     by_cases C:a=0
     ·have dj:U (Hg w h 0 (S.Al (d.data.toList.take a)) false 0 K):=V (by rw[C,show S.Al (d.data.toList.take 0) = -1 by simp[S.Al]];exact aj.q);have ao:¬(0:Int)<(a:Int):=Z;clear C;go_wp2;go_meet;exact dj
     have ao:(0:Int)<(a:Int):=Z;have d9:U (S.Al (d.data.toList.take a)=(S.dec (d.data.toList.take a):Int)):=V (by
      unfold S.Al;rw[if_neg];intro e;have:=congrArg List.length e;rw[Ql,S.lda,Qi]at this;omega)
     have T:U (Hg w h 0 0 false 0 (K.setCell (h 1) (.int .i64 0))):=V (by
      obtain⟨a2,b4,b5,b6⟩:=aj.q;refine⟨a2,?_,?_,b6.setCell (p:=⟨h,1,none⟩) (Sm a2) _⟩;·rw[Below.heap_setCell _ _ _ _ (by show w.heap.size≠h.heap.size;omega)];exact b4
      exact Aj (cs:=[.int .u8 0,.int .i64 (-1),.bool false,.int .i64 0]) b5 1 _)
     have a3:=X aj.q.2.2.1 1 _ rfl;have eo:K.frozen? (h 1)=false:=Av aj.q.2.2.1 1;clear C t;go_wp2;go_loopw [9] (λb9 wr=>∃i:Nat,i<=a/\b9=.int .i64 i/\U (Hg w h 0 (S.dec (d.data.toList.take i):Int) false 0 wr)) (λb9 _=>a-(intOf b9).toNat)
     case atStart=>exact⟨0,Qt _,rfl,T⟩
     case round=>
      obtain⟨i,ez,rfl,ai⟩:=hrel;by_cases d6:i<a
      ·have cj:i<d.size:=Z;have df:(i:Int)<(a:Int):=Z;have ev:(i:Int)<(d.size:Int):=Z;have ew:(0:Int)<=(i:Int):=Z;obtain⟨dv,dw⟩:=cg.q i d6 cj;have ci:d.data.toList[i]?=some d[i]:=S.Bz d i cj;have cz:S.dec (d.data.toList.take (i+1))=S.dec (d.data.toList.take i)*10+(d[i].toNat-48):=by
        unfold S.dec;rw[Sv,ci];simp
       have bu:=S.UJ (d.data.toList.take (i+1));rw[Ql,S.lda,SI Z]at bu;have ea:10 ^ (i+1)<=10 ^ 6:=Nat.pow_le_pow_right J Z;obtain⟨P,bn⟩:=Qyy (S.dec (d.data.toList.take i));obtain⟨af,l⟩:=Qyy (S.dec (d.data.toList.take (i+1)));rw[bn,l]at cz;rw[l]at bu;rw[bn]at ai;have eu:af<=300000000:=Z;have en:wr.cell? (h 1)=some (.int .i64 (P:Int)):=X ai.q.2.2.1 1 _ rfl;have ep:wr.frozen? (h 1)=false:=Av ai.q.2.2.1 1;have e5:IntKind.u8.wrap ((d[i].toNat:Int)-48)=(d[i].toNat:Int)-48:=by
        have:=d[i].toNat_lt;simp[IntKind.wrap,IntKind.bits,IntKind.signed];omega
       have e6:IntKind.i64.wrap (10*(P:Int))=10*(P:Int):=(by rw[Sqe];omega);have e7:IntKind.i64.wrap (10*(P:Int)+((d[i].toNat:Int)-48))=(af:Int):=(by rw[Sqe];omega);have dm:U (Hg w h 0 (af:Int) false 0 ((wr.setCell (h 1) (.int .i64 (af:Int))))):=V (by
        obtain⟨a2,b4,b5,b6⟩:=ai.q;refine⟨a2,?_,?_,b6.setCell (p:=⟨h,1,none⟩) (Sm a2) _⟩;·rw[Below.heap_setCell _ _ _ _ (by show w.heap.size≠h.heap.size;omega)];exact b4
        exact Aj (cs:=[.int .u8 0,.int .i64 (P:Int),.bool false,.int .i64 0]) b5 1 _)
       have de:=V l;clear ci bn l cz bu ea;go_wp2_with (fail);go_region
       go_wp2;go_roundw
       case rel=>exact⟨i+1,Z,by go_num,by rw[de.q];exact V dm.q.drew⟩
       case measure=>exact Sj
      have d1:i=a:=Z;subst d1;have dl:U (Hg w h 0 (S.Al (d.data.toList.take i)) false 0 wr):=V (by rw[d9.q];exact ai.q);clear ai;go_wp2;go_meet;exact dl
    case rest=>
    have T:=hcut;have du:=bv;obtain⟨y,bx⟩:=Qyy (S.Al (d.data.toList.take a));rw[bx]at T;obtain⟨m,cl⟩:∃m:Int,(d[a].toNat:Int)=m:=⟨_,rfl⟩;obtain⟨H,bo⟩:=Qzz (wc.setCell h (.int .u8 m));have a8:U (Hg w h m y false 0 H):=V (by rw[bo];exact T.q.kind m);have em:=X T.q.2.2.1 0 _ rfl;have el:wc.frozen? h=false:=Av T.q.2.2.1 0;have cm:=V cl;have dp:=V bo;obtain⟨k,b0⟩:=Qyy (d.extract (a+1) d.size);have c1:k.data.toList=d.data.toList.drop (a+1):=(by rw[<-b0,S.Iw]);have c2:k.size=d.size-(a+1):=(by rw[<-b0];simp);have e4:((a:Int)+1).toNat=a+1:=Z;have ex:(0:Int)<=(a:Int)+1:=Z;have ey:(a:Int)+1<=(d.size:Int):=Z;have fb:IntKind.i64.wrap ((a:Int)+1)=(a:Int)+1:=(by rw[Sqe];omega);have d7:=V bx;have b1:=V c1;clear bo hcut T bx t eb bv du cl c1;go_upto_region 22 with fail
    rw[cm.q,<-dp.q];obtain⟨R,ch⟩:=Qyy (S.Fa d (a+1));have ax:=V ch;have c3:=V c2;clear ch c2 b0;go_cut [107] (λeg j=>eg=.bool (!R)/\H=j)
    case first=>
     by_cases ay:a+1=d.size
     ·have e0:k.toList=[]:=by
       rw[ByteArray.toList_eq,b1.q];exact Qw (by rw[S.lda];omega)
      have r:U (R=true):=V (by rw[<-ax.q];unfold S.Fa;rw[S.lda,Sl ay];rfl);clear ay;go_wp2;go_meet;exact⟨by rw[r.q];rfl,rfl⟩
     have F:0<k.size:=(by have:=c3.q;omega);have d4:¬k.toList=[]:=by
      rw[ByteArray.toList_eq];intro e;have:=congrArg List.length e;rw[S.lda,Qi]at this;omega
     have bb:d.data.toList[a+1]?=some k[0]:=by
      have A:=S.Bz k 0 F;rw[b1.q,Qn,SL]at A;exact A
     have fc:(0:Int)<(k.size:Int):=Z;by_cases ag:k[0]=32
     ·have r:U (R=true):=V (by rw[<-ax.q];unfold S.Fa;rw[bb,ag];simp);have bk:((k[0].toNat:Int) != 32)=false:=(by simp[ag]);clear ay bb ag;go_wp2;go_meet;exact⟨by rw[r.q];rfl,rfl⟩
     have r:U (R=false):=V (by rw[<-ax.q];unfold S.Fa;rw[bb,S.lda,Si ay];simpa using ag);have bk:((k[0].toNat:Int) != 32)=true:=(by rw[bne_iff_ne];intro f;exact ag (Qk.1 (by show k[0].toNat=32;omega)));clear ay bb ag;go_wp2;go_meet;exact⟨by rw[r.q];first|rfl|simp[d4],rfl⟩
    case rest=>
    obtain⟨rfl,rfl⟩:=hcut;have ba:=a8;cases R
    ·have l:U ((S.Ae s).ok=false):=V (by rw[cw.q,cr.q,if_pos (.inr ax.q)]);have g:=ba.q;have M:=V (Y8 g.2.1 (.int .u8 m) (.int .i64 y) (.bool false) (.int .i64 0));have W:=V (Xa g.2.2.2 (.int .u8 m) (.int .i64 y) (.bool false) (.int .i64 0));have bh:=X g.2.2.1 0 _ rfl;have a3:=X g.2.2.1 1 _ rfl;have bi:=X g.2.2.1 2 _ rfl;have bj:=X g.2.2.1 3 _ rfl;have ap:=X g.2.1 0 _ rfl;have aq:=X g.2.1 1 _ rfl;have ar:=X g.2.1 2 _ rfl;have au:=X g.2.1 3 _ rfl;have a4:=Av g.2.1;clear g;go_wp2;refine Sqk (v:=.tuple #[.agg #[.int .u8 m,y,false,O],false]) (by have D:=X M.q 0 _ rfl;have ab:=X M.q 1 _ rfl;have ac:=X M.q 2 _ rfl;have ae:=X M.q 3 _ rfl;simp[results,results93,go_sem,D,ab,ac,ae]) rfl ?_;exact⟨m,y,false,0,by rw[l.q],V (λf=>by rw[l.q]at f;cases f),W.q⟩
    have a7:S.Ae s=⟨d.data.toList.getD a 0,y,S.Ap s+(a+1)+(if S.Ar k=true\/5<=S.Ap k.data.toList then 1 else S.Ap k),S.Ar k,true⟩:=by
     rw[cw.q,cr.q,if_neg,SF,d7.q,b1.q];rintro(f|f);·omega
     rw[ax.q]at f;cases f
    have cn:(d.data.toList.getD a 0).toNat=m:=by
     rw[List.getD_eq_getElem?_getD,S.Bz d a cp];exact cm.q
    have c0:k.size<=1000000:=(by have:=c3.q;omega);have bm:=Lb k H c0;have cy:=S.Jz s;rw[S.lda]at cy;have c4:=S.Jz k;rw[S.lda]at c4;obtain⟨q,bs⟩:=Qyy (S.Ar k);obtain⟨G,bf⟩:=Qyy (S.Ap k);obtain⟨o,bd⟩:=Qyy (S.Ap s);rw[bs]at bm;rw[bs,bf,bd]at a7;rw[bd]at cy;rw[bf]at c4;obtain⟨mk,bc⟩:∃mk:Nat,(if q=true\/5<=G then 1 else G)=mk:=⟨_,rfl⟩
    rw[bc]at a7;have e2:mk<=1000000:=(by rw[<-bc];split<;>omega);have di:U (∀j,Calls prog 88 #[k] j λe z=>e=.returned G/\j=z):=V (λj=>by
     have:=Mw k j c0;rw[bf]at this;exact this.mono (λe z ⟨A,L⟩=>⟨A,L.symm⟩))
    have dh:U (∀j,Calls prog 88 #[s] j λe z=>e=.returned o/\j=z):=V (λj=>by
     have:=Mw s j bz;rw[bd]at this;exact this.mono (λe z ⟨A,L⟩=>⟨A,L.symm⟩))
    have dd:U (Calls prog 67 #[k] H λe z=>e=.returned q/\H=z):=V (bm.mono (λe z ⟨A,L⟩=>⟨A,L.symm⟩));obtain⟨N,bp⟩:=Qzz (H.setCell (h 2) (.bool q));have a9:U (Hg w h m y q 0 N):=V (by rw[bp];exact a8.q.empty q);obtain⟨bg,bq⟩:=Qzz (N.setCell (h 3) (.int .i64 ((o:Int)+(a:Int)+1+(mk:Int))));have dk:U (Hg w h m y q ((o:Int)+(a:Int)+1+(mk:Int)) bg):=V (by rw[bq];exact a9.q.Ao _);have fd:=X a8.q.2.2.1 2 _ rfl;have fh:H.frozen? (h 2)=false:=Av a8.q.2.2.1 2;have fe:N.cell? (h 2)=some (.bool q):=X a9.q.2.2.1 2 _ rfl;have fg:=X a9.q.2.2.1 3 _ rfl;have fi:N.frozen? (h 3)=false:=Av a9.q.2.2.1 3;have dq:=V bp;have dr:=V bq;have cb:=V a7;have d2:=V cn;have cq:=V bc;have e8:IntKind.i64.wrap ((o:Int)+(a:Int))=(o:Int)+(a:Int):=(by rw[Sqe];omega);have e9:IntKind.i64.wrap ((o:Int)+(a:Int)+1)=(o:Int)+(a:Int)+1:=(by rw[Sqe];omega);have fa:IntKind.i64.wrap ((o:Int)+(a:Int)+1+(mk:Int))=(o:Int)+(a:Int)+1+(mk:Int):=(by rw[Sqe];omega);clear bp bq a7 cn bm bs bf bd bc ba;go_wp2_with (fail);apply dd.m;rintro e z⟨rfl,rfl⟩;go_upto_region 25 with fail
    rw[<-dq.q];go_wp2_with (fail);refine(di.q _).mono ?_;rintro e z⟨rfl,rfl⟩;go_upto_region 26 with fail
    obtain⟨Q,cf⟩:∃Q:Bool,(q||decide (5<=G))=Q:=⟨_,rfl⟩;have am:=V cf;clear cf;go_cut [119] (λei j=>ei=.bool Q/\N=j)
    case first=>
     cases q
     ·by_cases ca:5<=G
      ·have db:(5:Int)<=(G:Int):=Z;have r:U (Q=true):=V (by rw[<-am.q,Sl ca];rfl);go_wp2;go_meet;exact⟨by rw[r.q],rfl⟩
      have db:¬(5:Int)<=(G:Int):=Z;have r:U (Q=false):=V (by rw[<-am.q,Si ca];rfl);go_wp2;go_meet;exact⟨by rw[r.q],rfl⟩
     have r:U (Q=true):=V (by rw[<-am.q];rfl);go_wp2;go_meet;exact⟨by rw[r.q],rfl⟩
    case rest=>
    obtain⟨rfl,rfl⟩:=hcut;go_upto_if 119 with fail
    go_cut [11] (λeh j=>eh=.int .i64 (mk:Nat)/\N=j)
    case first=>
     cases Q
     ·have r:U (mk=G):=V (by
       rw[<-cq.q,if_neg];rintro(f|f);·have:=am.q;rw[f]at this;simp at this
       have:=am.q;rw[Sl f,Bool.or_true]at this;cases this)
      go_wp2;go_meet;exact⟨by rw[r.q],rfl⟩
     have r:U (mk=1):=V (by
      rw[<-cq.q,if_pos];have:=am.q;rw[Bool.or_eq_true,Sd]at this;exact this)
     go_wp2;go_meet;exact⟨by rw[r.q];rfl,rfl⟩
    case rest=>
    obtain⟨rfl,rfl⟩:=hcut;go_wp2_with (fail);refine(dh.q _).mono ?_;rintro e z⟨rfl,rfl⟩;go_upto_region 29 with fail
    rw[<-dr.q];have ba:=dk;have g:=ba.q;have M:=V (Y8 g.2.1 (.int .u8 m) (.int .i64 y) (.bool q) (.int .i64 ((o:Int)+(a:Int)+1+(mk:Int))));have W:=V (Xa g.2.2.2 (.int .u8 m) (.int .i64 y) (.bool q) (.int .i64 ((o:Int)+(a:Int)+1+(mk:Int))));have bh:=X g.2.2.1 0 _ rfl;have a3:=X g.2.2.1 1 _ rfl;have bi:=X g.2.2.1 2 _ rfl;have bj:=X g.2.2.1 3 _ rfl;have ap:=X g.2.1 0 _ rfl;have aq:=X g.2.1 1 _ rfl;have ar:=X g.2.1 2 _ rfl;have au:=X g.2.1 3 _ rfl;have a4:=Av g.2.1;clear g;go_wp2;refine Sqk (v:=.tuple #[.agg #[.int .u8 m,y,q,.int .i64 ((o:Int)+(a:Int)+1+(mk:Int))],true]) (by have D:=X M.q 0 _ rfl;have ab:=X M.q 1 _ rfl;have ac:=X M.q 2 _ rfl;have ae:=X M.q 3 _ rfl;simp[results,results93,go_sem,D,ab,ac,ae]) rfl ?_;refine⟨m,y,q,(o:Int)+(a:Int)+1+(mk:Int),by rw[cb.q],V (λ_=>?_),W.q⟩;rw[cb.q];exact⟨d2.q.symm,rfl,rfl,by show _=((o+(a+1)+mk:Nat):Int);omega⟩
   have l:=V (d8.q u t);have az:U (∀c:UInt8,c∈S.Iz a->¬(d[a].toNat:Int)=(c.toNat:Int)):=V (λc al=>by
    intro f;have e:d[a]=c:=Qk.1 Z;rw[e]at t;exact t al)
   clear t;go_upto_region 12 with fail
   go_cut [75] (λb8 j=>b8=.bool true/\K=j)
   case first=>
    by_cases C:a=0
    ·have x:S.Iz a=[45,43,42]:=(by unfold S.Iz;rw[if_pos C]);have bk:¬(d[a].toNat:Int)=45:=az.q 45 (by rw[x];decide);have c7:¬(d[a].toNat:Int)=43:=az.q 43 (by rw[x];decide);have c8:¬(d[a].toNat:Int)=42:=az.q 42 (by rw[x];decide);have ao:((a:Int) == 0)=true:=(by rw[Sqb];omega);have b3:¬0<a:=Z;clear x C;go_wp2;go_meet;exact⟨by first|rfl|simp[ao,bk,c7,c8],rfl⟩
    have x:S.Iz a=[46,41]:=(by unfold S.Iz;rw[if_neg C]);have c9:¬(d[a].toNat:Int)=46:=az.q 46 (by rw[x];decide);have da:¬(d[a].toNat:Int)=41:=az.q 41 (by rw[x];decide);have ao:((a:Int) == 0)=false:=(by rw[Qe];omega);have ef:(0:Int)<(a:Int):=Z;have b3:0<a:=Z;clear x C;go_wp2;go_meet;exact⟨by first|rfl|(simp;exact⟨c9,da⟩),rfl⟩
   case rest=>
   obtain⟨rfl,rfl⟩:=hcut;have g:=aj.q;have D:=Y8 g.2.1 (.int .u8 0) (.int .i64 (-1)) (.bool false) (.int .i64 0);have W:=V (Xa g.2.2.2 (.int .u8 0) (.int .i64 (-1)) (.bool false) (.int .i64 0));have F:=V D;have bh:=X g.2.2.1 0 _ rfl;have a3:=X g.2.2.1 1 _ rfl;have bi:=X g.2.2.1 2 _ rfl;have bj:=X g.2.2.1 3 _ rfl;have ap:=X g.2.1 0 _ rfl;have aq:=X g.2.1 1 _ rfl;have ar:=X g.2.1 2 _ rfl;have au:=X g.2.1 3 _ rfl;have a4:=Av g.2.1;clear g D;go_wp2;refine Sqk (v:=.tuple #[.agg #[.int .u8 0,(-1:Int),false,O],false]) (by have D:=X F.q 0 _ rfl;have ab:=X F.q 1 _ rfl;have ac:=X F.q 2 _ rfl;have ae:=X F.q 3 _ rfl;simp[results,results93,go_sem,D,ab,ac,ae]) rfl ?_;exact⟨0,-1,false,0,by rw[l.q],V (λf=>by rw[l.q]at f;cases f),W.q⟩
namespace S
def Wd (l:List UInt8):Bool:=Ar l||Ea l||decide (0<En l)||(Bp l).ok||Cz l||((Ae l).ok&&(!(Ae l).empty&&((Ae l).Al == -1||(Ae l).Al == 1)))
theorem ZJ (l:List UInt8):Hw l=(decide (0<Ez l)||Wd l):=by
 unfold Hw Wd;cases Ar l<;>cases decide (0<Ez l)<;>cases Ea l<;>cases decide (0<En l)<;>cases (Bp l).ok<;>cases Cz l<;>rfl
theorem zlf (l:List UInt8)(a:(Bp l).ok=true):3<=(Bp l).width:=by
 unfold Bp at a ⊢;split at a
 ·cases a
 split at a
 ·rename_i c g f d;simp only[d,if_true];simp only[Hl,Bool.and_eq_true,decide_eq_true_eq]at a;exact a.1
 cases a
end S
theorem zlr (s:Sb)(w:Sw)(g:s.size<=1000000):Calls prog 144 #[s] w λe a=>e=.returned (.bool (S.Wd s))/\Below w w a:=by
 have v:=V ((Lb s w g).mono (λe a ⟨d,f⟩=>(⟨d,f.symm⟩:e=_/\w=a)));have x:=V ((Ze s w g).mono (λe a ⟨d,f⟩=>(⟨d,f.symm⟩:e=_/\w=a)));have y:=V (LJ s w g);have M:=V (LX s w g);have z:=V ((Yw s w g).mono (λe a ⟨d,f⟩=>(⟨d,f.symm⟩:e=_/\w=a)));have N:=V (Xj s w g);obtain⟨h,l⟩:=Qyy (S.Wd s);have C:h=(S.Ar s||S.Ea s||decide (0<S.En s)||(S.Bp s).ok||S.Cz s||((S.Ae s).ok&&(!(S.Ae s).empty&&((S.Ae s).Al == -1||(S.Ae s).Al == 1)))):=by rw[<-l];rfl
 rw[l];have m:=V C;obtain⟨k,o⟩:=Qyy (S.Ar s);obtain⟨b,p⟩:=Qyy (S.Ea s);obtain⟨c,q⟩:=Qyy (S.En s);obtain⟨t,r⟩:=Qyy (S.Cz s);rw[o,p,q,r]at m;rw[o]at v;rw[p]at x;rw[q]at y;rw[r]at z;clear o p q r l C;go_enter func144,ntmps144;go_wp2_with fail
 apply v.m;rintro e a⟨rfl,rfl⟩;go_wp2_with fail
 apply x.m;rintro e a⟨rfl,rfl⟩;go_wp2_with fail
 apply y.m;rintro e a⟨W,rfl,_,rfl⟩;go_wp2_with fail
 apply M.m;rintro e a⟨ac,L,af,rfl,G,rfl⟩;go_wp2_with fail
 apply z.m;rintro e a⟨rfl,rfl⟩;go_wp2_with fail
 apply N.m;rintro e ae⟨aa,K,T,ab,rfl,H,D⟩;have A:U (h=(k||b||decide ((0:Int)<(c:Int))||decide ((0:Int)<L)||t||((S.Ae s).ok&&(!T&&(K == -1||K == 1))))):=V (by
  rw[m.q];have d:(S.Bp s).ok=decide ((0:Int)<L):=by
   have:=G.q.2;split at this
   ·rename_i j;rw[j];symm
    rw[Sd,this.2.1];have:=S.zlf _ j;omega
   rename_i j;rw[this];simpa using j
  have f:decide (0<c)=decide ((0:Int)<(c:Int)):=by rw[decide_eq_decide];omega
  rw[d,f];congr 1
  cases P:(S.Ae s).ok with
  |false=>rfl
  |true=>
   obtain⟨_,Q,R,_⟩:=H.q P;rw[Q,R])
 obtain⟨u,F⟩:=Qyy ((S.Ae s).ok);rw[F]at A ⊢;have E:=V D;clear F G H m D;go_wp2;all_goals
  go_ret;exact⟨Dy (by rw[A.q];first|(simp[*];done)|(simp[*];left;left;left;omega)),E.q.alloc E.q.size _⟩
