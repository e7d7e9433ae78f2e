import Derived.Test.YtlojgpkajkedeaaGreatDoorOW9
import Derived.Test.YtlojgpkajkedeaaGreatDoorOW6
import Derived.Deep.OwnRows
import Derived.Deep.AppendLies
set_option maxHeartbeats 0
set_option maxRecDepth 100000
namespace Go.Proofs.YtlojgpkajkedeaaGreatDoor
open Go.RowKit Go.Proofs.Tryz
theorem XD (s:Sb)(w:Sw)(z:s.size<=140737488355328)(y:Env w):Calls prog 182 #[s] w λe d=>e=.returned (.bool (S.Hw s))/\Below w w d:=by
 have a:s.size<=maxLen:=by unfold maxLen;omega
 have g:U (S.Hw s=(S.Ar s||decide (0<S.Ez s)||S.Ea s||decide (0<S.En s)||S.Cz s||(S.Bp s).ok||((S.Ae s).ok&&(!(S.Ae s).empty&&((S.Ae s).Al == -1||(S.Ae s).Al == 1))))):=V rfl;cases k:S.Ar s
 case true=>
  have f:U (S.Hw s=true):=V (by rw[g.q,k];rfl);go_enter func182,ntmps182;go_wp2_with (go_at_call 111;refine(Jt _ _ a).mono ?_;rintro e d⟨rfl,rfl⟩)
  go_ret;exact⟨Dy f.q.symm,Sr⟩
 case false=>
 by_cases q:0<S.Ez s
 ·have f:U (S.Hw s=true):=V (by rw[g.q,Sl q];simp);go_enter func182,ntmps182;go_wp2_with (first|(go_at_call 111;refine(Jt _ _ a).mono ?_;rintro e d⟨rfl,rfl⟩)|(go_at_call 184;refine(Uf _ _ a).mono ?_;rintro e d⟨rfl,rfl⟩))
  go_ret;exact⟨Dy f.q.symm,Sr⟩
 cases p:S.Ea s
 case true=>
  have f:U (S.Hw s=true):=V (by rw[g.q,p];simp);go_enter func182,ntmps182;go_wp2_with (first|(go_at_call 111;refine(Jt _ _ a).mono ?_;rintro e d⟨rfl,rfl⟩)|(go_at_call 184;refine(Uf _ _ a).mono ?_;rintro e d⟨rfl,rfl⟩)|(go_at_call 114;refine(O9 _ _ a).mono ?_;rintro e d⟨rfl,rfl⟩))
  go_ret;exact⟨Dy f.q.symm,Sr⟩
 case false=>
 by_cases m:0<S.En s
 ·have f:U (S.Hw s=true):=V (by rw[g.q,Sl m];simp);go_enter func182,ntmps182;go_wp2_with (first|(go_at_call 111;refine(Jt _ _ a).mono ?_;rintro e d⟨rfl,rfl⟩)|(go_at_call 184;refine(Uf _ _ a).mono ?_;rintro e d⟨rfl,rfl⟩)|(go_at_call 114;refine(O9 _ _ a).mono ?_;rintro e d⟨rfl,rfl⟩)|(go_at_call 115;refine(Xn _ _ a).mono ?_;rintro e d⟨rfl,rfl⟩))
  go_ret;exact⟨Dy f.q.symm,Sr⟩
 cases o:S.Cz s
 case true=>
  have f:U (S.Hw s=true):=V (by rw[g.q,o];simp);go_enter func182,ntmps182;go_wp2_with (first|(go_at_call 111;refine(Jt _ _ a).mono ?_;rintro e d⟨rfl,rfl⟩)|(go_at_call 184;refine(Uf _ _ a).mono ?_;rintro e d⟨rfl,rfl⟩)|(go_at_call 114;refine(O9 _ _ a).mono ?_;rintro e d⟨rfl,rfl⟩)|(go_at_call 115;refine(Xn _ _ a).mono ?_;rintro e d⟨rfl,rfl⟩)|(go_at_call 119;refine(Uk _ _ a).mono ?_;rintro e d⟨rfl,rfl⟩))
  go_ret;exact⟨Dy f.q.symm,Sr⟩
 case false=>
 go_enter func182,ntmps182;go_wp2_with (first|(go_at_call 111;refine(Jt _ _ a).mono ?_;rintro e d⟨rfl,rfl⟩)|(go_at_call 184;refine(Uf _ _ a).mono ?_;rintro e d⟨rfl,rfl⟩)|(go_at_call 114;refine(O9 _ _ a).mono ?_;rintro e d⟨rfl,rfl⟩)|(go_at_call 115;refine(Xn _ _ a).mono ?_;rintro e d⟨rfl,rfl⟩)|(go_at_call 119;refine(Uk _ _ a).mono ?_;rintro e d⟨rfl,rfl⟩))
 refine(VD s _ a).mono ?_;rintro e E⟨info,rfl,C,D,h⟩;cases l:(S.Bp s).ok
 case true=>
  have f:U (S.Hw s=true):=V (by rw[g.q,l];simp);go_wp2;go_ret;exact⟨Dy f.q.symm,h.alloc (by have:=h.size;omega) _⟩
 case false=>
 go_wp2_with fail
 refine(EA s _ z ((y.below h).alloc _)).mono ?_;rintro e F⟨rfl,u⟩;have v:=(h.alloc h.size _).trans (u.mono (by have:=h.size;simp;omega));have j:=V v;clear h u v;cases t:(S.Ae s).ok
 case false=>
  have f:U (S.Hw s=false):=V (by rw[g.q,k,p,o,l,t,Si q,Si m];rfl);go_wp2;go_ret;exact⟨Dy f.q.symm,j.q.alloc j.q.size _⟩
 case true=>
  have f:U (S.Hw s=(!(S.Ae s).empty&&((S.Ae s).Al == -1||(S.Ae s).Al == 1))):=V (by
   rw[g.q,k,p,o,l,t,Si q,Si m];rfl)
  have r:=V (λA=>zn0 ((S.Ae s).kind.toNat:Int) (S.Ae s).Al ((S.Ae s).Ao:Nat) (S.Ae s).empty A);rw[<-f.q]at r;go_wp2_with fail
  refine(r.q _).mono ?_;rintro e G⟨rfl,x⟩;go_wp2;go_ret;exact⟨rfl,(j.q.alloc j.q.size _).trans (x.mono (by have:=j.q.size;simp;omega))⟩
theorem UU (a:So)(d:Nat)(kind:UInt8)(w:Sw):Calls prog 181 #[.slice a 0 d,.int .u8 (kind.toNat:Int)] w λe f=>e=.returned (.tuple #[.agg #[.int .u8 0,O,O,false],false])/\Below w w f:=by
 go_enter func181,ntmps181;go_wp2;exact Sqk (v:=.tuple #[.agg #[.int .u8 0,O,O,false],false]) (by simp[results,results181,go_sem]) rfl ⟨rfl,Sr.alloc (Qc _) _⟩
theorem zjt (b a n g:Nat)(kind:UInt8)(s:Sb)(w:Sw)(m:0<n)(k:s.size<=maxLen)(h:b<w)(j:w.cell? (b a)=some (.string s))(q:S.Ea s=true):Calls prog 181 #[.slice (some (b a)) n g,.int .u8 (kind.toNat:Int)] w λe f=>e=.returned (.tuple #[.agg #[.int .u8 0,O,O,false],false])/\Below w w f:=by
 have o:((n:Int) == 0)=false:=by rw[Qe];omega
 have l:∀d,(w.alloc d).cell? (b a)=some (.string s):=λd=>by
  rw[((Below.refl w w).alloc (Qc _) d).cell (p:=⟨b,a,none⟩) h];exact j
 go_enter func181,ntmps181;go_wp2_with (go_at_call 114;refine(O9 _ _ k).mono ?_;rintro e f⟨rfl,rfl⟩)
 exact Sqk (v:=.tuple #[.agg #[.int .u8 0,O,O,false],false]) (by simp[results,results181,go_sem]) rfl ⟨rfl,Sr.alloc (Qc _) _⟩
theorem ze2 (b q n C:Nat)(kind:UInt8)(s:Sb)(w:Sw)(af:0<n)(L:s.size<=140737488355328)(F:b<w)(G:w.cell? (b q)=some (.string s))(aj:S.Ea s=false)(H:Env w):Calls prog 181 #[.slice (some (b q)) n C,.int .u8 (kind.toNat:Int)] w λe A=>e=.returned (.tuple #[.agg #[.int .u8 ((S.Ae s).kind.toNat:Int),.int .i64 (S.Ae s).Al,((S.Ae s).Ao:Nat),.bool (S.Ae s).empty],.bool ((S.Ae s).ok&&decide ((S.Ae s).kind=kind))])/\Below w w A:=by
 have M:s.size<=maxLen:=by unfold maxLen;omega
 have ag:((n:Int) == 0)=false:=by rw[Qe];omega
 have ae:∀r,(w.alloc r).cell? (b q)=some (.string s):=λr=>by
  rw[((Below.refl w w).alloc (Qc _) r).cell (p:=⟨b,q,none⟩) F];exact G
 go_enter func181,ntmps181;go_wp2_with (go_at_call 114;refine(O9 _ _ M).mono ?_;rintro e A⟨rfl,rfl⟩)
 refine(EA s _ L (H.alloc _)).mono ?_;rintro e m⟨rfl,o⟩;have f:=o.block w Y;rw[Ak]at f;have T:=X f 0 _ rfl;have W:=X f 1 _ rfl;have aa:=X f 2 _ rfl;have ab:=X f 3 _ rfl;have ac:=Av f;have N:w<m.heap.size:=by have:=o.size;simp at this;omega
 have E:=V (((Below.refl w w).alloc (Qc _) (.cells #[.int .u8 0,O,O,false] 186)).trans (o.mono Y));have D:=V f;clear f o;generalize u:S.Ae s=a;have x:=V u;clear u;have K:U ((((a.kind.toNat:Int)) == (kind.toNat:Int))=decide (a.kind=kind)):=V (by
  rw[SC,Sqb,Sd];constructor
  ·intro t;exact Qk.1 Z
  intro t;rw[t])
 have ah:w.heap.size≠m.heap.size:=Z;have ai:m.heap.size≠w.heap.size:=Z;have l:∀d,(((((m.setCell w (.int .u8 (a.kind.toNat:Int))).setCell (w 1) (.int .i64 a.Al)).setCell (w 2) (.int .i64 (a.Ao:Nat))).setCell (w 3) (.bool a.empty)).alloc d).heap[w.heap.size]?=some (.cells #[.int .u8 (a.kind.toNat:Int),a.Al,a.Ao,a.empty] 186 (0,0)):=λd=>by
  rw[Sqj _ _ _ (by simp[World.setCell];exact N)];exact Aj (Aj (Aj (Aj D.q 0 _) 1 _) 2 _) 3 _
 have g:=V (λd=>X (l d) 0 _ rfl);have h:=V (λd=>X (l d) 1 _ rfl);have j:=V (λd=>X (l d) 2 _ rfl);have k:=V (λd=>X (l d) 3 _ rfl);have y:U (∀d,Below w w (((((m.setCell w (.int .u8 (a.kind.toNat:Int))).setCell (w 1) (.int .i64 a.Al)).setCell (w 2) (.int .i64 (a.Ao:Nat))).setCell (w 3) (.bool a.empty)).alloc d)):=V (λd=>by
  refine Below.alloc (Sqh (Sqh (Sqh (Sqh E.q Y _) Y _) Y _) Y _) ?_ _;simp[World.setCell];omega)
 clear l;cases z:a.ok
 ·go_wp2_with fail
  go_region
  all_goals go_wp2
  refine Sqk (v:=.tuple #[.agg #[.int .u8 (a.kind.toNat:Int),a.Al,a.Ao,a.empty],false]) (by have g:=g.q;have h:=h.q;have j:=j.q;have k:=k.q;simp[results,results181,go_sem,g,h,j,k]) rfl ⟨?_,?_⟩;·rw[x.q,z];rfl
  exact(y.q _).drew
 generalize P:((a.kind.toNat:Int) == (kind.toNat:Int))=R;have Q:=V P;go_wp2_with fail
 go_region
 all_goals go_wp2
 refine Sqk (v:=.tuple #[.agg #[.int .u8 (a.kind.toNat:Int),a.Al,a.Ao,a.empty],R]) (by have g:=g.q;have h:=h.q;have j:=j.q;have k:=k.q;simp[results,results181,go_sem,g,h,j,k]) rfl ⟨?_,?_⟩;·rw[x.q,z,<-K.q,Q.q];rfl
 exact(y.q _).drew
theorem Tryz.AL:(prog.info? 9).map (λi=>(i.zero,i.size,i.bytes))=some (some (.string ⟨#[]⟩),1,16):=Sk
def Mv (m:Nat)(d:List ByteArray)(a:Nat):List UInt8:=((dat d)[a]?.getD []).drop m
def Kq (m n:Nat)(d:List ByteArray):List ByteArray:=(List.range n).map (λa=>S.B (Mv m d a))
theorem Vk (m n:Nat)(a:List ByteArray):(Kq m n a).length=n:=by simp[Kq]
theorem CU (m n:Nat)(f:List ByteArray)(i:Nat)(s:Sb)(a:(Kq m n f)[i]?=some s):i<n/\s=S.B (Mv m f i):=by
 have d:i<n:=by have:=(Qb.1 a).1;rw[Vk]at this;exact this
 refine⟨d,?_⟩;simp[Kq,d]at a;exact a.symm
theorem zi3 (m n:Nat)(a:List ByteArray)(g:n<=a.length):dat (Kq m n a)=((dat a).take n).map (λf=>f.drop m):=by
 apply List.ext_getElem?
 intro i;rw[Iy];by_cases d:i<n
 ·simp only[Kq,List.getElem?_map,List.getElem?_range d,Option.map_some,S.Bq,Mv];rw[Qbe d];have:i<(dat a).length:=by rw[Cq];omega
  rw[Qg this];rfl
 rw[Qr (by rw[Vk];omega),Qr (by simp;omega)];rfl
theorem Zi (m:Nat)(d:List ByteArray)(a:Nat)(s:Sb)(f:d[a]?=some s):(Mv m d a)=s.data.toList.drop m:=by
 unfold Mv;rw[Iy,f];rfl
theorem EH (m n:Nat)(a:List ByteArray)(d:n<=a.length):tot (Kq m n a)<=tot a:=by
 induction a generalizing n with
 |nil=>simp at d;subst d;simp[Kq,tot]
 |cons g f h=>cases n with
  |zero=>simp[Kq,tot]
  |succ n=>
   have j:=h n (by simpa using d);have e:Kq m (n+1) (g::f)=S.B (g.data.toList.drop m)::Kq m n f:=by
    simp only[Kq,List.range_succ_eq_map,Qs,List.map_map];congr 1
   rw[e];simp only[tot,Qs,List.sum_cons]at *;rw[S.Bc,Qf,S.lda];omega
theorem zfk (b o ap:Nat)(d:List ByteArray)(kind Al:Int)(m:Nat)(empty:Bool)(w:Sw)(bj:0<d.length)(bh:b<w)(au:Cx w b o d)(bl:m<=1000000)
  (a5:¬(empty=true/\((dat d)[1]?.map S.Ar)=some true)) :
  Calls prog 180 #[.slice (some (b o)) d.length ap,.agg #[.int .u8 kind,Al,m,empty]] w λe h=>
   ∃ag,e=.returned (.slice (some ⟨ag,0,none⟩) (S.Da m (dat d)) (S.Da m (dat d)))/\Cx h ag 0 (Kq m (S.Da m (dat d)) d)/\w.heap.size<=ag/\ag<h.heap.size/\Below w w h:=by
 have av:=au.2;have bk:=au.len;obtain⟨n,al⟩:=Qyy (S.Da m (dat d));have ak:=S.P9 m (dat d) (by rw[Cq];exact bj);rw[al,Cq]at ak;have aq:U (∀v,Row v b o d->Calls prog 166 #[.slice (some (b o)) d.length ap,m] v λe h=>e=.returned n/\v=h):=V (λv ah=>by
  have:=OH b o ap d m v Z ah;rw[al]at this;exact this.mono (λe h ah=>⟨ah.1,ah.2.symm⟩))
 rw[al];clear al;have ar:=run_make_row' (P:=prog) 32 9 (.string ⟨#[]⟩) 16 underlying32 Tryz.AL rfl .i64 .i64 n Z Z;obtain⟨j,M⟩:=Qzz (w.alloc (.cells #[.int .u8 kind,Al,m,empty] 186));have F:j.heap.size=(w:Nat)+1:=by rw[M];simp
 have aj:Below w w j:=by rw[M];exact(Below.refl _ w).alloc (Qc _) _
 have an:j.heap[w.heap.size]?=some (.cells #[.int .u8 kind,Al,m,empty] 186):=by rw[M];exact Ak _ _
 have D:=V (au.below aj bh);have bd:=X an 2 _ rfl;have bf:=X an 3 _ rfl;have ai:=V M;have aw:=V an;have ao:∀ax,(w.alloc (.cells #[.int .u8 kind,Al,m,.bool ax] 186)).cell? (w 3)=some (.bool ax):=λax=>X (Ak _ _) 3 _ rfl;have bc:empty=false\/(empty=true/\¬1<d.length)\/(empty=true/\∃G,d[1]?=some G/\S.Ar G.data.toList=false):=by
  cases bg:empty
  ·exact .inl rfl
  by_cases H:1<d.length
  ·refine .inr (.inr ⟨rfl,d[1],Qg H,?_⟩);cases a1:S.Ar d[1].data.toList
   ·rfl
   exact absurd ⟨bg,by rw[Iy,Qg H];simp[a1]⟩ a5
  exact .inr (.inl ⟨rfl,H⟩)
 clear a5 M an bd bf;rcases bc with rfl|⟨rfl,H⟩|⟨rfl,G,am,a1⟩
 ·go_enter func180,ntmps180;go_wp2_with fail
  rw[<-ai.q];refine(aq.q _ D.q.row).mono ?_;rintro e h⟨rfl,rfl⟩;have ae:=V F;have A:=V (World.rowIs_made j (.string ⟨#[]⟩) n 9);have N:=V ((Below.refl ((w:Nat)+1) j).alloc Z (.cells (madeCells #[()] n) 9));go_wp2;rw[ae.q]at A;clear F ar ao;go_loopw [6,28] (λ_ i wr=>∃a:Nat,a<=n/\i=.int .i64 a/\wr.rowIs ((w:Nat)+1) 9 n (λg=>if g<a then .string (S.B (Mv m d g))else .string ⟨#[]⟩)/\Below ((w:Nat)+1) j wr) (λ_ i _=>n-(intOf i).toNat)
  case atStart=>exact⟨0,Qt _,rfl,A.q.congr (by intro g R;simp),N.q⟩
  case round=>
   obtain⟨a,a4,rfl,s,q⟩:=hrel;have k:=V s;have r:=V q;have t:=q.block w Z;rw[aw.q]at t;have a9:=X t 2 _ rfl;have K:(w:Nat)+1<wr.heap.size:=s.lt;clear t s q;by_cases aa:a<n
   ·obtain⟨f,l⟩:∃f,d[a]?=some f:=⟨d[a],Qg Z⟩;have a2:wr.cell? (b (o+a))=some (.string f):=(r.q.cell (p:=⟨b,o+a,none⟩) (by show b<_;omega)).trans (D.q.1 a f l);have E:f.size<=maxLen:=(by have:=J6 _ _ f l;unfold maxLen;omega);have W:=V (Zi m d a f l);have C:∃af,wr.cell? (((w:Nat)+1) a)=some af:=⟨_,k.q.cell aa⟩;obtain⟨ba,C⟩:=C;have a3:=k.q.frozen a;have a6:b≠(w:Nat)+1:=Z;have a7:(w:Nat)+1≠b:=Z;have ay:(0:Int)<=(a:Int):=Z;have az:(a:Int)<(n:Int):=Z;have a0:(a:Int)<(d.length:Int):=Z;have L:=V (λv=>Yq f (m:Int) v E Z Z);clear l;go_wp2_with (fail);go_region_held3 (λh=>h.cell? (b (o+a))=some (.string f)/\h.cell? (w 2)=some (.int .i64 (m:Int)))
     (first|go_keep|(refine⟨?_,?_⟩<;>(first|assumption|(simp[*];done))))
     ((go_at_call 167;refine(L.q _).mono ?_;rintro e bb⟨u,rfl,ab,a8,rfl⟩))
    have ac:U (Value.string u=.string (S.B (Mv m d a))):=V (by rw[W.q,<-S.El u,ab.q];rfl);go_wp2;go_roundw
    case rel=>
     refine⟨a+1,Z,by go_num,?_,?_⟩
     ·refine(World.rowIs.drew ?_);refine(k.q.set a (.string u)).congr ?_;intro g R;by_cases z:g=a
      ·subst z;simp only[if_true];rw[if_pos Z];exact ac.q
      rw[if_neg z];by_cases y:g<a
      ·rw[if_pos y,if_pos Z]
      rw[if_neg y,if_neg Z]
     exact(r.q.setCell Y _).drew
    case measure=>exact Sj
   have T:a=n:=Z;subst T;go_wp2;go_ret;refine⟨(w:Nat)+1,rfl,⟨?_,Qj (EH m a d ak) av⟩,Z,K,aj.trans (r.q.mono Z)⟩;intro i f Q;obtain⟨x,rfl⟩:=CU m a d i f Q;have:=k.q.cell x;rw[if_pos x]at this;rw[Nat.zero_add];exact this
 ·go_enter func180,ntmps180;go_wp2_with fail
  rw[<-ai.q];refine(aq.q _ D.q.row).mono ?_;rintro e h⟨rfl,rfl⟩;have ae:=V F;have A:=V (World.rowIs_made j (.string ⟨#[]⟩) n 9);have N:=V ((Below.refl ((w:Nat)+1) j).alloc Z (.cells (madeCells #[()] n) 9));go_wp2;rw[ae.q]at A;clear F ar ao;go_loopw [6,28] (λ_ i wr=>∃a:Nat,a<=n/\i=.int .i64 a/\wr.rowIs ((w:Nat)+1) 9 n (λg=>if g<a then .string (S.B (Mv m d g))else .string ⟨#[]⟩)/\Below ((w:Nat)+1) j wr) (λ_ i _=>n-(intOf i).toNat)
  case atStart=>exact⟨0,Qt _,rfl,A.q.congr (by intro g R;simp),N.q⟩
  case round=>
   obtain⟨a,a4,rfl,s,q⟩:=hrel;have k:=V s;have r:=V q;have t:=q.block w Z;rw[aw.q]at t;have a9:=X t 2 _ rfl;have K:(w:Nat)+1<wr.heap.size:=s.lt;clear t s q;by_cases aa:a<n
   ·obtain⟨f,l⟩:∃f,d[a]?=some f:=⟨d[a],Qg Z⟩;have a2:wr.cell? (b (o+a))=some (.string f):=(r.q.cell (p:=⟨b,o+a,none⟩) (by show b<_;omega)).trans (D.q.1 a f l);have E:f.size<=maxLen:=(by have:=J6 _ _ f l;unfold maxLen;omega);have W:=V (Zi m d a f l);have C:∃af,wr.cell? (((w:Nat)+1) a)=some af:=⟨_,k.q.cell aa⟩;obtain⟨ba,C⟩:=C;have a3:=k.q.frozen a;have a6:b≠(w:Nat)+1:=Z;have a7:(w:Nat)+1≠b:=Z;have ay:(0:Int)<=(a:Int):=Z;have az:(a:Int)<(n:Int):=Z;have a0:(a:Int)<(d.length:Int):=Z;have L:=V (λv=>Yq f (m:Int) v E Z Z);clear l;go_wp2_with (fail);go_region_held3 (λh=>h.cell? (b (o+a))=some (.string f)/\h.cell? (w 2)=some (.int .i64 (m:Int)))
     (first|go_keep|(refine⟨?_,?_⟩<;>(first|assumption|(simp[*];done))))
     ((go_at_call 167;refine(L.q _).mono ?_;rintro e bb⟨u,rfl,ab,a8,rfl⟩))
    have ac:U (Value.string u=.string (S.B (Mv m d a))):=V (by rw[W.q,<-S.El u,ab.q];rfl);go_wp2;go_roundw
    case rel=>
     refine⟨a+1,Z,by go_num,?_,?_⟩
     ·refine(World.rowIs.drew ?_);refine(k.q.set a (.string u)).congr ?_;intro g R;by_cases z:g=a
      ·subst z;simp only[if_true];rw[if_pos Z];exact ac.q
      rw[if_neg z];by_cases y:g<a
      ·rw[if_pos y,if_pos Z]
      rw[if_neg y,if_neg Z]
     exact(r.q.setCell Y _).drew
    case measure=>exact Sj
   have T:a=n:=Z;subst T;go_wp2;go_ret;refine⟨(w:Nat)+1,rfl,⟨?_,Qj (EH m a d ak) av⟩,Z,K,aj.trans (r.q.mono Z)⟩;intro i f Q;obtain⟨x,rfl⟩:=CU m a d i f Q;have:=k.q.cell x;rw[if_pos x]at this;rw[Nat.zero_add];exact this
 have E:G.size<=maxLen:=by have:=J6 _ _ G am;unfold maxLen;omega
 have H:1<d.length:=(Qb.1 am).1;have bi:=D.q.1 1 G am;rw[ai.q]at bi;clear am;go_enter func180,ntmps180;go_wp2_with (go_at_call 111;refine(Jt _ _ E).mono ?_;rintro e h⟨rfl,rfl⟩)
 rw[<-ai.q];refine(aq.q _ D.q.row).mono ?_;rintro e h⟨rfl,rfl⟩;have ae:=V F;have A:=V (World.rowIs_made j (.string ⟨#[]⟩) n 9);have N:=V ((Below.refl ((w:Nat)+1) j).alloc Z (.cells (madeCells #[()] n) 9));go_wp2;rw[ae.q]at A;clear F ar ao;go_loopw [6,28] (λ_ i wr=>∃a:Nat,a<=n/\i=.int .i64 a/\wr.rowIs ((w:Nat)+1) 9 n (λg=>if g<a then .string (S.B (Mv m d g))else .string ⟨#[]⟩)/\Below ((w:Nat)+1) j wr) (λ_ i _=>n-(intOf i).toNat)
 case atStart=>exact⟨0,Qt _,rfl,A.q.congr (by intro g R;simp),N.q⟩
 case round=>
  obtain⟨a,a4,rfl,s,q⟩:=hrel;have k:=V s;have r:=V q;have t:=q.block w Z;rw[aw.q]at t;have a9:=X t 2 _ rfl;have K:(w:Nat)+1<wr.heap.size:=s.lt;clear t s q;by_cases aa:a<n
  ·obtain⟨f,l⟩:∃f,d[a]?=some f:=⟨d[a],Qg Z⟩;have a2:wr.cell? (b (o+a))=some (.string f):=(r.q.cell (p:=⟨b,o+a,none⟩) (by show b<_;omega)).trans (D.q.1 a f l);have E:f.size<=maxLen:=by have:=J6 _ _ f l;unfold maxLen;omega
   have W:=V (Zi m d a f l);have C:∃af,wr.cell? (((w:Nat)+1) a)=some af:=⟨_,k.q.cell aa⟩;obtain⟨ba,C⟩:=C;have a3:=k.q.frozen a;have a6:b≠(w:Nat)+1:=Z;have a7:(w:Nat)+1≠b:=Z;have ay:(0:Int)<=(a:Int):=Z;have az:(a:Int)<(n:Int):=Z;have a0:(a:Int)<(d.length:Int):=Z;have L:=V (λv=>Yq f (m:Int) v E Z Z);clear l;go_wp2_with (fail);go_region_held3 (λh=>h.cell? (b (o+a))=some (.string f)/\h.cell? (w 2)=some (.int .i64 (m:Int)))
    (first|go_keep|(refine⟨?_,?_⟩<;>(first|assumption|(simp[*];done))))
    ((go_at_call 167;refine(L.q _).mono ?_;rintro e bb⟨u,rfl,ab,a8,rfl⟩))
   have ac:U (Value.string u=.string (S.B (Mv m d a))):=V (by rw[W.q,<-S.El u,ab.q];rfl);go_wp2;go_roundw
   case rel=>
    refine⟨a+1,Z,by go_num,?_,?_⟩
    ·refine(World.rowIs.drew ?_);refine(k.q.set a (.string u)).congr ?_;intro g R;by_cases z:g=a
     ·subst z;simp only[if_true];rw[if_pos Z];exact ac.q
     rw[if_neg z];by_cases y:g<a
     ·rw[if_pos y,if_pos Z]
     rw[if_neg y,if_neg Z]
    exact(r.q.setCell Y _).drew
   case measure=>exact Sj
  have T:a=n:=Z;subst T;go_wp2;go_ret;refine⟨(w:Nat)+1,rfl,⟨?_,Qj (EH m a d ak) av⟩,Z,K,aj.trans (r.q.mono Z)⟩;intro i f Q;obtain⟨x,rfl⟩:=CU m a d i f Q;have:=k.q.cell x;rw[if_pos x]at this;rw[Nat.zero_add];exact this
theorem zdo (b g q:Nat)(h:List ByteArray)(kind Al:Int)(m:Nat)(a:Sb)(w:Sw)(r:b<w)(l:Cx w b g h)(f:h[1]?=some a)(x:S.Ar a=true):Calls prog 180 #[.slice (some (b g)) h.length q,.agg #[.int .u8 kind,Al,m,true]] w λe j=>
   ∃d,e=.returned (.slice (some ⟨d,0,none⟩) 1 1)/\Cx j d 0 [⟨#[]⟩]/\w.heap.size<=d/\d<j.heap.size/\Below w w j:=by
 have z:=l.len;have u:a.size<=maxLen:=by have:=J6 _ _ a f;have:=l.2;unfold maxLen;omega
 have v:1<h.length:=(Qb.1 f).1;have y:∀o,(w.alloc o).cell? (b (g+1))=some (.string a):=λo=>by
  rw[((Below.refl w w).alloc (Qc _) o).cell (p:=⟨b,g+1,none⟩) r];exact l.1 1 a f
 clear f;go_enter func180,ntmps180;go_wp2_with (go_at_call 111;refine(Jt _ _ u).mono ?_;rintro e j⟨rfl,rfl⟩)
 go_ret;have t:(w.alloc (.cells #[.int .u8 kind,Al,m,true] 186)).heap.size=(w:Nat)+1:=Y;refine⟨(w:Nat)+1,rfl,⟨?_,by show (0:Nat)+1+0<=1000000;omega⟩,Z,Y,(Sr.alloc (Qc _) _).alloc Y _⟩;intro i A k;have s:i=0:=by have:=(Qb.1 k).1;simpa using this
 subst s;simp at k;subst k;rw[<-t];exact X (Ak _ _) 0 _ rfl
theorem zfj (b k l:Nat)(a:List ByteArray)(kind:UInt8)(mk:S.Mark)(w:Sw)(s:0<a.length)(v:b<w)(x:Cx w b k a)(y:mk.Ao<=1000000):Calls prog 180 #[.slice (some (b k)) a.length l,.agg #[.int .u8 (kind.toNat:Int),mk.Al,mk.Ao,mk.empty]] w λe h=>
   ∃d g,e=.returned (.slice (some ⟨d,0,none⟩) g.length g.length)/\Cx h d 0 g/\U (dat g=S.Ay mk (dat a))/\0<g.length/\g.length<=a.length/\w.heap.size<=d/\d<h.heap.size/\Below w w h:=by
 by_cases m:mk.empty=true/\((dat a)[1]?.map S.Ar)=some true
 ·obtain⟨u,f⟩:=m;rw[Iy]at f;cases j:a[1]? with
  |none=>rw[j]at f;simp at f
  |some z=>
   rw[j]at f;simp at f;rw[u];refine(zdo b k l a (kind.toNat:Int) mk.Al mk.Ao z w v x j f).mono ?_;rintro e h⟨d,rfl,t,o,p,q⟩;refine⟨d,[⟨#[]⟩],rfl,t,V ?_,Y,s,o,p,q⟩;unfold S.Ay;rw[if_pos ⟨u,by rw[Iy,j];simpa using f⟩];rfl
 refine(zfk b k l a (kind.toNat:Int) mk.Al mk.Ao mk.empty w s v x y m).mono ?_;rintro e h⟨d,rfl,t,o,p,q⟩;have r:=S.P9 mk.Ao (dat a) (by rw[Cq];exact s);rw[Cq]at r;have A:=S.Ti mk.Ao (dat a);refine⟨d,Kq mk.Ao (S.Da mk.Ao (dat a)) a,by rw[Vk],t,V ?_,by rw[Vk];omega,by rw[Vk];exact r,o,p,q⟩;rw[zi3 _ _ _ r];unfold S.Ay;rw[if_neg m]
def Rc (a:List UInt8->List UInt8)(f:List ByteArray)(d:Nat):List UInt8:=a ((dat f)[d]?.getD [])
def M9 (d:List UInt8->List UInt8)(a:List ByteArray):List ByteArray:=(List.range a.length).map (λf=>S.B (Rc d a f))
theorem EK (d:List UInt8->List UInt8)(a:List ByteArray):(M9 d a).length=a.length:=by simp[M9]
theorem znf (f:List UInt8->List UInt8)(a:List ByteArray)(i:Nat)(s:Sb)(d:(M9 f a)[i]?=some s):i<a.length/\s=S.B (Rc f a i):=by
 have g:i<a.length:=by have:=(Qb.1 d).1;rw[EK]at this;exact this
 refine⟨g,?_⟩;simp[M9,g]at d;exact d.symm
theorem PX (d:List UInt8->List UInt8)(a:List ByteArray):dat (M9 d a)=(dat a).map d:=by
 apply List.ext_getElem?
 intro i;rw[Iy,SA];by_cases f:i<a.length
 ·have g:i<(dat a).length:=by rw[Cq];exact f
  simp only[M9,List.getElem?_map,List.getElem?_range f,Option.map_some,S.Bq,Rc];rw[Qg g];rfl
 rw[Qr (by rw[EK];omega),Qr (by rw[Cq];omega)];rfl
theorem zbn (a:List UInt8->List UInt8)(f:List ByteArray)(d:Nat)(s:Sb)(g:f[d]?=some s):Rc a f d=a s.data.toList:=by
 unfold Rc;rw[Iy,g];rfl
def J4 (l:List UInt8):List UInt8:=l.drop (S.Ap l)
theorem Xz (a:List (List UInt8)):S.Df a=Lib.join (a.map J4) [10]:=by
 induction a with
 |nil=>rfl
 |cons f j h=>
  cases j with
  |nil=>simp[S.Df,Lib.join,List.intercalate,J4]
  |cons g d=>
   have:S.Df (f::g::d)=J4 f++10::S.Df (g::d):=rfl;rw[this,h];simp[Lib.join,List.intercalate]
theorem join_le (d:List ByteArray):(Lib.join ((dat d).map J4) [10]).length<=tot d:=by
 rw[<-Xz];induction d with
 |nil=>simp[dat,S.Df]
 |cons a h j=>
  cases h with
  |nil=>simp[dat,S.Df,tot,List.length_drop];rw[<-S.lda];simp;omega
  |cons g f=>
   have e:S.Df (dat (a::g::f))=J4 a++10::S.Df (dat (g::f)):=rfl;rw[e,Qa,Qd];have:(J4 a).length<=a.size:=by unfold J4;rw[Qf,S.lda];omega
   simp only[tot,Qs,List.sum_cons]at *;omega
theorem zgs (b s R:Nat)(f:List ByteArray)(w:Sw)(ac:b<w)(C:Cx w b s f):Calls prog 183 #[.slice (some (b s)) f.length R] w λe u=>
   ∃t:Sb,e=.returned t/\U (t.data.toList=Lib.trimRightB (S.Df (dat f)) 32)/\Below w w u:=by
 have ao:=C.2;have ah:=C.len;obtain⟨n,z⟩:=Qzz (f.length);have ak:=run_make_row' (P:=prog) 32 9 (.string ⟨#[]⟩) 16 underlying32 Tryz.AL rfl .i64 .i64 n Z Z;rw[<-z]at ah ⊢;have m:=V z;have aj:=V (World.rowIs_made w (.string ⟨#[]⟩) n 9);have ab:=V ((Below.refl w w).alloc (Qc _) (.cells (madeCells #[()] n) 9));clear z;go_enter func183,ntmps183;go_wp2;clear ak;go_loopw [4,5,11] (λ_ _ i wr=>∃a:Nat,a<=n/\i=.int .i64 a/\wr.rowIs w 9 n (λg=>if g<a then .string (S.B (Rc J4 f g))else .string ⟨#[]⟩)/\Below w w wr) (λ_ _ i _=>n-(intOf i).toNat)
 case atStart=>exact⟨0,Qt _,rfl,aj.q.congr (by intro g L;simp),ab.q⟩
 case round=>
  obtain⟨a,aw,rfl,A,H⟩:=hrel;have o:=V A;have y:=V H;have E:=A.lt;clear A H;by_cases ai:a<n
  ·obtain⟨d,q⟩:∃d,f[a]?=some d:=⟨f[a]'(by have:=m.q;omega),Qg (by have:=m.q;omega)⟩;have au:=(y.q.cell (p:=⟨b,s+a,none⟩) ac).trans (C.1 a d q);have an:d.size<=maxLen:=by have:=J6 _ _ d q;unfold maxLen;omega
   have ag:=V (zbn J4 f a d q);have ae:S.Ap d.data.toList<=d.size:=by have:=S.Jz d.data.toList;rw[S.lda]at this;exact this
   have Q:∃aq,wr.cell? (w a)=some aq:=⟨_,o.q.cell ai⟩;obtain⟨ay,Q⟩:=Q;have av:=o.q.frozen a;obtain⟨j,r⟩:=Qyy (S.Ap d.data.toList);have T:U (∀v,Calls prog 112 #[.string d] v λe u=>e=.returned j/\v=u):=V (λv=>by
    have:=Kg d v an;rw[r]at this;exact this.mono (λe u D=>⟨D.1,D.2.symm⟩))
   have am:U (Value.string (d.extract j d.size)=.string (S.B (Rc J4 f a))):=V (by
    rw[ag.q,<-S.El (d.extract j d.size),S.Iw,<-r];rfl)
   rw[r]at ae;clear q r;go_wp2_with (go_at_call 112;refine(T.q _).mono ?_;rintro e az⟨rfl,rfl⟩)
   go_roundw
   case rel=>
    refine⟨a+1,Z,by go_num,?_,?_⟩
    ·refine(o.q.set a (.string (d.extract j d.size))).congr ?_;intro g L;by_cases k:g=a
     ·subst k;simp only[if_true];rw[if_pos Z];exact am.q
     rw[if_neg k];by_cases M:g<a
     ·rw[if_pos M,if_pos Z]
     rw[if_neg M,if_neg Z]
    exact y.q.setCell (Qc _) _
   case measure=>exact Sj
  have af:a=n:=Z;subst af;have K:∀(g:Nat) x,(M9 J4 f)[g]?=some x->wr.cell? (w (0+g))=some (.string x):=by
   intro g x ap;obtain⟨L,rfl⟩:=znf J4 f g x ap;have k:g<a:=by have:=m.q;omega
   have:=o.q.cell k;rw[if_pos k]at this;rw[Nat.zero_add];exact this
  have N:(M9 J4 f).length=a:=by rw[EK];exact m.q.symm
  have h:=Tryz.strings_Join w 0 a (M9 J4 f) ⟨#[10]⟩ wr K E Z Z (by
   have:=join_le f;rw[<-PX]at this;exact Qj this Z)
  rw[N]at h;have W:=V h;clear h K N;go_wp2_with fail
  apply W.m;rintro e a0⟨rfl,G⟩;have aa:=V (y.q.trans (G.mono (Sm E)));obtain⟨l,h⟩:∃l:List UInt8,l=Lib.join ((M9 J4 f).map (·.data.toList)) (ByteArray.mk #[10]).data.toList:=⟨_,rfl⟩;have F:U (l=S.Df (dat f)):=V (by rw[h,Xz];show Lib.join (dat (M9 J4 f)) [10]=_;rw[PX]);have ar:l.length<=1000000:=by rw[F.q,Xz];exact Qj (join_le f) ao
  rw[<-h];clear G h;go_wp2_with fail
  refine(Yo _ 32 J _ (by rw[S.Pk];unfold maxLen;omega)).mono ?_;rintro e a1⟨t,rfl,al,ax,rfl⟩;go_wp2;go_ret;exact⟨t,rfl,V (by rw[al.q,F.q]),aa.q⟩
theorem Vb (l:List (List UInt8))(k:Nat)(d:∀a,a<k->(l[a]?.map S.Hw)=some false)(f:(l[k]?.map S.Hw)≠some false):S.Dw l=k:=by
 induction l generalizing k with
 |nil=>cases k with
  |zero=>simp[S.Dw]
  |succ k=>have:=d 0 Z;simp at this
 |cons o m h=>cases k with
  |zero=>simp at f;simp[S.Dw,f]
  |succ k=>
   have g:=d 0 Z;simp at g;have:=h k (λa j=>by have:=d (a+1) Z;simpa using this) (by simpa using f);simp[S.Dw,this,g]
theorem Cx.take {w:Sw}{b g:Nat}{f:List ByteArray}(a:Cx w b g f)(k:Nat):Cx w b g (f.take k):=by
 refine⟨λi h d=>a.1 i h ?_,?_⟩
 ·have j:i<k:=by have:=(Qb.1 d).1;rw[Ql]at this;omega
  rw[Qbe j]at d;exact d
 refine Qj ?_ a.2;clear a;induction f generalizing k with
 |nil=>simp[tot]
 |cons h m l=>cases k with
  |zero=>simp[tot]
  |succ k=>have:=l k;simp only[Qz,tot,Qs,List.sum_cons]at *;omega
theorem Jy {w:Sw}{N T:Nat}{o p q r s t u v:Value}(x:w.heap[N]?=some (.cells #[o,p,q,r,s,t,u,v] T (0,0)))(y:N<w)(a d f g h j k l:Value)(m:Obj):(((((((((w.setCell N a).setCell (N 1) d).setCell (N 2) f).setCell (N 3) g).setCell (N 4) h).setCell (N 5) j).setCell (N 6) k).setCell (N 7) l).alloc m).heap[N]?=some (.cells #[a,d,f,g,h,j,k,l] T (0,0)):=by
 rw[Sqj _ _ _ (by simp[World.setCell];exact y)];exact Aj (Aj (Aj (Aj (Aj (Aj (Aj (Aj x 0 _) 1 _) 2 _) 3 _) 4 _) 5 _) 6 _) 7 _
theorem AX {B N:Nat}{a w:Sw}(g:Below B a w)(d:B<=N)(h:B<=w)(j k l m o p q r:Value)(f:Obj):Below B a (((((((((w.setCell N j).setCell (N 1) k).setCell (N 2) l).setCell (N 3) m).setCell (N 4) o).setCell (N 5) p).setCell (N 6) q).setCell (N 7) r).alloc f):=by
 refine Below.alloc (Sqh (Sqh (Sqh (Sqh (Sqh (Sqh (Sqh (Sqh g d _) d _) d _) d _) d _) d _) d _) d _) ?_ _;simp[World.setCell];exact h
theorem zk1 (b x ah:Nat)(s:Sb)(d:List ByteArray)(w:Sw)(b6:d.length+1<=ah)(bq:b<w)(av:Cx w b x (s::d))(br:Env w):Calls prog 123 #[.slice (some (b x)) (d.length+1) ah] w λe ax=>
   e=.returned (.tuple #[Gz (S.Cr (dat (s::d))).1 (.slice none 0 0),((S.Cr (dat (s::d))).2:Nat)])/\Below w w ax:=by
 have ca:=av.2;have bv:=av.len;simp only[Qd]at bv;go_enter func123,ntmps123;go_wp2;obtain⟨N,R⟩:=Qzz (w.alloc (.cells #[O,O,Sx,O,(),(),false,Sx] 110));have ba:N.heap.size=(w:Nat)+1:=by rw[R];simp
 have aa:Below w w N:=by rw[R];exact(Below.refl _ w).alloc (Qc _) _
 have bc:N.heap[w.heap.size]?=some (.cells #[O,O,Sx,O,(),(),false,Sx] 110):=by rw[R];exact Ak _ _
 rw[<-R];have af:=V ba;have bd:=V bc;have a8:=V (av.below aa bq);have bs:=V (br.below aa);clear ba bc R;go_loopw [4] (λi wr=>∃a:Nat,a<=d.length/\i=.int .i64 ((a:Int)+1)/\(∀K,K<a->((dat d)[K]?.map S.Hw)=some false)/\Below ((w:Nat)+1) N wr) (λi _=>d.length+1-(intOf i).toNat)
 case atStart=>exact⟨0,Qt _,rfl,by intro K bt;omega,Sr⟩
 case round=>
  obtain⟨a,b8,rfl,a1,ai⟩:=hrel;have b3:=ai.size;have b1:=af.q;have an:(w:Nat)+1<=wr.heap.size:=Z;have P:=V ai;have ap:=V a1;have a5:=V (bs.q.below (ai.mono Z));clear b3 b1 ai a1;have az:((s::d).take (a+1)).length=a+1:=by rw[Ql,Qd];omega
  have ay:U (∀M,Below ((w:Nat)+1) N M->Calls prog 183 #[.slice (some (b x)) (a+1) ah] M λe ax=>∃L:Sb,e=.returned L/\U (L.data.toList=Lib.trimRightB (S.Df (dat ((s::d).take (a+1)))) 32)/\Below M.heap.size M ax):=V (λM bb=>by
   have:=zgs b x ah ((s::d).take (a+1)) M (by have:=bb.size;have:=af.q;omega) ((a8.q.below bb Z).take (a+1));rw[az]at this;exact this)
  have a4:U (dat ((s::d).take (a+1))=(dat (s::d)).take (a+1)):=V (by simp[dat]);clear az;by_cases bw:a<d.length
  ·obtain⟨t,am⟩:∃t,d[a]?=some t:=⟨d[a],Qg bw⟩;have ae:(s::d)[a+1]?=some t:=by simpa using am
   have a2:wr.cell? (b (x+(a+1)))=some (.string t):=(P.q.cell (p:=⟨b,x+(a+1),none⟩) (by show b<_;omega)).trans (a8.q.1 (a+1) t ae);have a9:t.size<=140737488355328:=by have:=J6 _ _ t ae;omega
   have b2:t.size<=maxLen:=by unfold maxLen;omega
   have ak:(dat d)[a]?=some t.data.toList:=by rw[Iy,am];rfl
   have bx:((a:Int)+1 == (d.length:Int)+1)=false:=by rw[Qe];omega
   cases Q:S.Hw t.data.toList
   ·have bo:U (∀K,K<a+1->((dat d)[K]?.map S.Hw)=some false):=by
     intro K bt;by_cases e:K=a
     ·subst e;rw[ak,Sq,Q]
     exact ap.q K Z
    have ao:=V (Q▸XD t wr a9 a5.q);clear am ae ak Q;go_wp2_with (fail);apply ao.m;rintro e b5⟨rfl,T⟩;have bp:=V T;clear T;go_wp2;go_roundw
    case rel=>exact⟨a+1,Z,by go_num,bo.q,P.q.trans (bp.q.mono an)⟩
    case measure=>exact Sj
   have ab:S.Dw (dat d)=a:=Vb _ a ap.q (by rw[ak,Sq,Q];simp);have au:U (S.Cr (dat (s::d))=if 0<S.Ez t.data.toList then (.mk 2 (S.Ez t.data.toList) [] (Lib.trimRightB (S.Df (dat ((s::d).take (a+1)))) 32) false [],a+1+1)else (.mk 1 0 [] (Lib.trimRightB (S.Df (dat ((s::d).take (a+1)))) 32) false [],a+1)):=V (by
    unfold S.Cr;rw[show (dat (s::d)).tail=dat d from rfl,ab,a4.q];have:(dat (s::d))[a+1]?=some t.data.toList:=(by rw[Iy,ae];rfl);simp only[this])
   have ao:=V (Q▸XD t wr a9 a5.q);clear am ae ak Q ab;go_wp2_with (fail);apply ao.m;rintro e b5⟨rfl,T⟩;have aq:=V (P.q.trans (T.mono an));clear T;go_wp2_with (fail);refine(ay.q _ aq.q).mono ?_;rintro e u⟨L,rfl,ar,W⟩;have y:=aq.q.trans (W.mono (by have:=aq.q.size;have:=af.q;omega));have aj:=V y;have f:=y.block w Z;rw[bd.q]at f;have a3:u.cell? (b (x+(a+1)))=some (.string t):=by
    rw[y.cell (p:=⟨b,x+(a+1),none⟩) (by show b<_;omega),<-P.q.cell (p:=⟨b,x+(a+1),none⟩) (by show b<_;omega)];exact a2
   have b9:(w:Nat)+1<=u.heap.size:=by have:=y.size;have:=af.q;omega
   have b7:∀aw,(u.alloc aw).cell? (b (x+(a+1)))=some (.string t):=λaw=>by
    rw[((Below.refl u u).alloc (Qc _) aw).cell (p:=⟨b,x+(a+1),none⟩) (by show b<_;omega)];exact a3
   have z:=V (λh j k l m o q r g=>X (Jy f Z h j k l m o q r g) 0 _ rfl);have A:=V (λh j k l m o q r g=>X (Jy f Z h j k l m o q r g) 1 _ rfl);have C:=V (λh j k l m o q r g=>X (Jy f Z h j k l m o q r g) 2 _ rfl);have D:=V (λh j k l m o q r g=>X (Jy f Z h j k l m o q r g) 3 _ rfl);have E:=V (λh j k l m o q r g=>X (Jy f Z h j k l m o q r g) 4 _ rfl);have F:=V (λh j k l m o q r g=>X (Jy f Z h j k l m o q r g) 5 _ rfl);have G:=V (λh j k l m o q r g=>X (Jy f Z h j k l m o q r g) 6 _ rfl);have H:=V (λh j k l m o q r g=>X (Jy f Z h j k l m o q r g) 7 _ rfl);have bf:=X f 0 _ rfl;have bg:=X f 1 _ rfl;have bh:=X f 2 _ rfl;have bi:=X f 3 _ rfl;have bj:=X f 4 _ rfl;have bk:=X f 5 _ rfl;have bl:=X f 6 _ rfl;have bm:=X f 7 _ rfl;have bn:=Av f;have al:U (Value.string L=.string (S.B (Lib.trimRightB (S.Df (dat ((s::d).take (a+1)))) 32))):=V (by rw[<-ar.q,S.El]);have b4:w<u.heap.size:=Z;have bz:w.heap.size≠u.heap.size:=Z;have b0:u.heap.size≠w.heap.size:=Z;clear f y a3 a2 W;have a0:=V (λM=>Uf t M b2);obtain⟨ag,a7⟩:=Qyy (S.Ez t.data.toList);rw[a7]at a0 au;clear a7;go_wp2_with (fail);refine(a0.q _).mono ?_;rintro e cb⟨rfl,rfl⟩;by_cases a6:0<ag
   ·have ac:U (S.Cr (dat (s::d))=(.mk 2 (ag:Int) [] (Lib.trimRightB (S.Df (dat ((s::d).take (a+1)))) 32) false [],a+1+1)):=V (by rw[au.q,if_pos a6]);go_wp2;refine Sqk (v:=.tuple #[.agg #[(2:Int),O,Sx,ag,(),L,false,Sx],((a:Int)+1+1:Int)]) (by have z:=z.q;have A:=A.q;have C:=C.q;have D:=D.q;have E:=E.q;have F:=F.q;have G:=G.q;have H:=H.q;simp[results,results123,go_sem,z,A,C,D,E,F,G,H]) rfl ⟨?_,?_⟩;·rw[ac.q,al.q];rfl
    exact AX (aa.trans (aj.q.mono Z)) (Qc _) Z _ _ _ _ _ _ _ _ _
   have ac:U (S.Cr (dat (s::d))=(.mk 1 0 [] (Lib.trimRightB (S.Df (dat ((s::d).take (a+1)))) 32) false [],a+1)):=V (by rw[au.q,if_neg a6]);go_wp2;refine Sqk (v:=.tuple #[.agg #[(1:Int),O,Sx,O,(),L,false,Sx],((a:Int)+1:Int)]) (by have z:=z.q;have A:=A.q;have C:=C.q;have D:=D.q;have E:=E.q;have F:=F.q;have G:=G.q;have H:=H.q;simp[results,results123,go_sem,z,A,C,D,E,F,G,H]) rfl ⟨?_,?_⟩;·rw[ac.q,al.q];rfl
   exact AX (aa.trans (aj.q.mono Z)) (Qc _) Z _ _ _ _ _ _ _ _ _
  have bu:a=d.length:=Z;have ab:S.Dw (dat d)=a:=Vb _ a ap.q (by rw[Qr (by rw[Cq];omega)];simp);have ac:U (S.Cr (dat (s::d))=(.mk 1 0 [] (Lib.trimRightB (S.Df (dat ((s::d).take (a+1)))) 32) false [],a+1)):=V (by
   unfold S.Cr;rw[show (dat (s::d)).tail=dat d from rfl,ab,a4.q];have:(dat (s::d))[a+1]?=none:=by rw[Qr];rw[Cq,Qd];omega
   simp only[this])
  have bx:((a:Int)+1 == (d.length:Int)+1)=true:=by rw[Sqb];omega
  clear ab bu;go_wp2_with fail
  refine(ay.q _ P.q).mono ?_;rintro e u⟨L,rfl,ar,W⟩;have y:=P.q.trans (W.mono an);have aj:=V y;have f:=y.block w Z;rw[bd.q]at f;have b4:w<u.heap.size:=by have:=y.size;have:=af.q;omega
  have z:=V (λh j k l m o q r g=>X (Jy f Z h j k l m o q r g) 0 _ rfl);have A:=V (λh j k l m o q r g=>X (Jy f Z h j k l m o q r g) 1 _ rfl);have C:=V (λh j k l m o q r g=>X (Jy f Z h j k l m o q r g) 2 _ rfl);have D:=V (λh j k l m o q r g=>X (Jy f Z h j k l m o q r g) 3 _ rfl);have E:=V (λh j k l m o q r g=>X (Jy f Z h j k l m o q r g) 4 _ rfl);have F:=V (λh j k l m o q r g=>X (Jy f Z h j k l m o q r g) 5 _ rfl);have G:=V (λh j k l m o q r g=>X (Jy f Z h j k l m o q r g) 6 _ rfl);have H:=V (λh j k l m o q r g=>X (Jy f Z h j k l m o q r g) 7 _ rfl);have bf:=X f 0 _ rfl;have bg:=X f 1 _ rfl;have bh:=X f 2 _ rfl;have bi:=X f 3 _ rfl;have bj:=X f 4 _ rfl;have bk:=X f 5 _ rfl;have bl:=X f 6 _ rfl;have bm:=X f 7 _ rfl;have bn:=Av f;have al:U (Value.string L=.string (S.B (Lib.trimRightB (S.Df (dat ((s::d).take (a+1)))) 32))):=V (by rw[<-ar.q,S.El]);have bz:w.heap.size≠u.heap.size:=Z;have b0:u.heap.size≠w.heap.size:=Z;clear f y W;go_wp2;refine Sqk (v:=.tuple #[.agg #[(1:Int),O,Sx,O,(),L,false,Sx],((a:Int)+1:Int)]) (by have z:=z.q;have A:=A.q;have C:=C.q;have D:=D.q;have E:=E.q;have F:=F.q;have G:=G.q;have H:=H.q;simp[results,results123,go_sem,z,A,C,D,E,F,G,H]) rfl ⟨?_,?_⟩;·rw[ac.q,al.q];rfl
  exact AX (aa.trans (aj.q.mono Z)) (Qc _) Z _ _ _ _ _ _ _ _ _
inductive Co (w:Sw)(A:Nat->Prop):Value->List S.Ac->Prop
 |nil:Co w A (.slice none 0 0) []
 |some (b o cap:Nat) (ts:List S.Ac) (kv:Nat->Value) (ha:A b) (hcap:ts.length<=cap)
   (hc:∀i t,ts[i]?=some t->w.cell? (b (o+8*i))=some (.int .i64 t.kind)/\w.cell? (b (o+8*i+1))=some (.int .i64 t.line)/\(∃la ln lc,w.cell? (b (o+8*i+2))=some (.slice la ln lc))/\w.cell? (b (o+8*i+3))=some (.int .i64 t.n)/\w.cell? (b (o+8*i+4))=some (.string (S.B t.info))/\w.cell? (b (o+8*i+5))=some (.string (S.B t.text))/\w.cell? (b (o+8*i+6))=some (.bool t.Ai)/\w.cell? (b (o+8*i+7))=some (kv i))
   (hk:∀i t,ts[i]?=some t->Co w A (kv i) t.Ab):Co w A (.slice (some (b o)) ts.length cap) ts
theorem Co.move {w w':Sw}{A A':Nat->Prop}{v:Value}{g:List S.Ac}(m:Co w A v g)(y:∀b,A b->A' b)(D:∀b,A b->w'.heap[b]?=w.heap[b]?):Co w' A' v g:=by
 induction m with
 |nil=>exact .nil
 |some b f l g F k C z L E=>
  have d:∀f,w'.cell? ⟨b,f,none⟩=w.cell? ⟨b,f,none⟩:=λf=>World.cell?_of_block (a:=⟨b,f,none⟩) (D b k);refine .some b f l g F (y b k) C (λi j h=>?_) (λi j h=>E i j h);obtain⟨o,p,⟨G,K,H,q⟩,r,s,t,u,x⟩:=z i j h;exact⟨(d _).trans o,(d _).trans p,⟨G,K,H,(d _).trans q⟩,(d _).trans r,(d _).trans s,(d _).trans t,(d _).trans u,(d _).trans x⟩
theorem Co.form {w:Sw}{A:Nat->Prop}{v:Value}{f:List S.Ac}(d:Co w A v f):∃a n c,v=.slice a n c:=by
 cases d with
 |nil=>exact⟨_,_,_,rfl⟩
 |some=>exact⟨_,_,_,rfl⟩
def lenOf:Value->Nat | .slice _ k _=>k|_=>0
def bytes (l:List (List UInt8)):Nat:=(l.map List.length).sum
def Oa (d:Nat):Prop:=∀(b h g:Nat) (a:List ByteArray) (w:Sw),a.length<=g->b<w.heap.size->Cx w b h a->Env w->bytes (dat a)<d ->
 Calls prog 64 #[.slice (some (b h)) a.length g] w λe f=>∃j,e=.returned (.tuple #[j,.bool (S.Ag d (dat a)).2])/\Co f (λk=>w.heap.size<=k/\k<f) j (S.Ag d (dat a)).1/\Below w w f
theorem Xy {w:Sw}{N:Nat}(d f g h j k l m:Value)(b:Nat)(a:b≠N):((((((((w.setCell N d).setCell (N 1) f).setCell (N 2) g).setCell (N 3) h).setCell (N 4) j).setCell (N 5) k).setCell (N 6) l).setCell (N 7) m).heap[b]?=w.heap[b]?:=by
 iterate 8 rw[Below.heap_setCell _ _ _ _ (by simpa using a)]
theorem Yj {w:Sw}{N:Nat}(a d f g h j k l:Value):((((((((w.setCell N a).setCell (N 1) d).setCell (N 2) f).setCell (N 3) g).setCell (N 4) h).setCell (N 5) j).setCell (N 6) k).setCell (N 7) l).heap.size=w.heap.size:=by
 simp[World.setCell]
theorem BD (a:List ByteArray)(k:Nat):tot (a.take k)<=tot a:=by
 induction a generalizing k with
 |nil=>simp[tot]
 |cons g f d=>cases k with
  |zero=>simp[tot]
  |succ k=>have:=d k;simp only[Qz,tot,Qs,List.sum_cons]at *;omega
theorem JF (d:List ByteArray)(k:Nat)(h:∀g,g<k->((dat d)[g]?.map S.Cz)=some true):S.Bn (dat d)=((dat d).take k).map S.Kl++S.Bn ((dat d).drop k):=by
 induction k with
 |zero=>simp
 |succ k o=>
  have j:=o (λg p=>h g Z);have a:=h k Z;cases f:(dat d)[k]? with
  |none=>rw[f]at a;simp at a
  |some q=>
   rw[f]at a;simp at a;obtain⟨l,m⟩:=Qb.1 f;rw[j,Qm l,m,Sv,f];simp[S.Bn,a]
theorem zie (ak:Nat)(bg:Oa ak)(b an b0:Nat)(f:List ByteArray)(w:Sw)(ca:b<w)(bc:Cx w b an f)(cb:Env w)(bq:((dat f)[0]?.map S.Cz)=some true)(hd:bytes (S.Bn (dat f))<ak):Calls prog 120 #[.slice (some (b an)) f.length b0] w λe l=>
   ∃am,e=.returned (.tuple #[Gz (.mk 5 0 [] [] false (S.Ag ak (S.Bn (dat f))).1) am,((S.Bn (dat f)).length:Nat)])/\Co l (λx=>w.heap.size<=x/\x<l) am (S.Ag ak (S.Bn (dat f))).1/\Below w w l:=by
 have bv:=bc.2;have c4:=bc.len;obtain⟨i0,ab,cx,cy,cz⟩:=info_parts Tryz.AL;go_enter func120,ntmps120;go_wp2;obtain⟨H,T⟩:=Qzz (w.alloc (.cells #[O,O,Sx,O,(),(),false,Sx] 110));have bs:H.heap.size=(w:Nat)+1:=by rw[T];simp
 have al:Below w w H:=by rw[T];exact(Below.refl _ w).alloc (Qc _) _
 have bx:H.heap[w.heap.size]?=some (.cells #[O,O,Sx,O,(),(),false,Sx] 110):=by rw[T];exact Ak _ _
 rw[<-T];have af:=V bs;have bz:=V bx;have cr:=V (bc.below al ca);have bl:=V (cb.below al);have bh:=V bg;have br:=V bq;have bj:=V hd;clear bs bx T bg bq hd;go_loopw [4] (λv wr=>∃(a:Nat) (k:List ByteArray) (P:So) (y:Nat),a<=f.length/\v=.slice P a y/\k.length=a/\(∀m,m<a->((dat f)[m]?.map S.Cz)=some true)/\dat k=((dat f).take a).map S.Kl/\tot k<=tot (f.take a)/\wr.ownsRow ((w:Nat)+1) 9 1 v a (k.map Value.string)/\Below ((w:Nat)+1) H wr) (λv _=>f.length-lenOf v)
 case atStart=>exact⟨0,[],none,0,Qt _,rfl,rfl,by intro m ac;omega,by simp[dat],by simp[tot],Sqg _ _ _ _,Sr⟩
 case round=>
  obtain⟨a,k,P,y,c3,rfl,bn,bi,bk,bu,bo,a5⟩:=hrel;have cu:=a5.size;have cs:=af.q;have a0:(w:Nat)+1<=wr.heap.size:=Z;have K:=V a5;have a4:=V bi;have M:=V bo;have a8:=V bk;have E:=V bn;clear cu cs a5 bi bo bk bn;by_cases ci:a<f.length
  ·obtain⟨h,N⟩:∃h,f[a]?=some h:=⟨f[a],Qg ci⟩;have c2:wr.cell? (b (an+a))=some (.string h):=(K.q.cell (p:=⟨b,an+a,none⟩) (by show b<_;omega)).trans (cr.q.1 a h N);have bd:h.size<=maxLen:=by have:=J6 _ _ h N;unfold maxLen;omega
   have L:(dat f)[a]?=some h.data.toList:=by rw[Iy,N];rfl
   cases u:S.Cz h.data.toList
   ·have d:1<=a:=by
     rcases Nat.eq_zero_or_pos a with z|z
     ·subst z;have:=br.q;rw[L,Sq,u]at this;simp at this
     exact z
    have A:U (S.Bn (dat f)=dat k):=V (by
     rw[JF f a a4.q,a8.q];obtain⟨ck,G⟩:=Qb.1 L;rw[Qm ck,G];simp[S.Bn,u])
    obtain⟨j,r,a3,cd,aa,ba,ag⟩:∃j r,P=some ⟨j,0,none⟩/\(w:Nat)+1<=j/\wr.heap[j]?=some (.cells r 9 (0,0))/\a<=y/\r.toList.take a=k.map Value.string:=by
     rcases M.q.2 with ⟨g,s⟩|⟨j,b2,r,g,s,Q,R,b4,b5,az⟩
     ·omega
     cases g;exact⟨j,r,rfl,s,Q,R,by simpa using az⟩
    subst a3;have ae:Cx wr j 0 k:=by
     refine⟨λi h ab=>?_,Qj bu (Qj (Qj (BD f a) (Qc _)) bv)⟩;have a7:r[i]?=some (.string h):=by
      have g:(k.map Value.string)[i]?=some (.string h):=(by rw[SA,ab];rfl);rw[<-ag]at g;have a9:i<a:=(by have:=(Qb.1 g).1;rw[Ql]at this;omega);rw[Qbe a9]at g;simpa using g
     rw[Nat.zero_add];exact X aa i _ a7
    have W:j<wr:=(by have:=M.q.lt j rfl;exact this.2);have C:=bh.q j 0 y k wr (by rw[E.q];exact ba) W ae (bl.q.below (K.q.mono (by have:=af.q;omega))) (by rw[A.q.symm];exact bj.q);rw[A.q.symm,E.q]at C;have a2:=V C;clear C ae W aa ag;have a1:U (∀q,Calls prog 119 #[.string h] q λe l=>e=.returned false/\q=l):=V (λq=>(Uk h q bd).mono (λe l ⟨g,s⟩=>⟨by rw[g,u],s.symm⟩));clear L N u;go_wp2_with (go_at_call 119;refine(a1.q _).mono ?_;rintro e l⟨rfl,rfl⟩)
    apply a2.m;rintro e bf⟨am,rfl,F,D⟩;obtain⟨ah,aj,ai,rfl⟩:=F.form;have t:=K.q.trans (D.mono a0);have d:=t.block w Z;rw[bz.q]at d;have cv:w<bf.heap.size:=(by have:=t.size;have:=af.q;omega);have a6:=V t;have cg:=V d;have bb:=V F;have b9:=V D;have ap:=X d 0 _ rfl;have aq:=X d 1 _ rfl;have ar:=X d 2 _ rfl;have au:=X d 3 _ rfl;have av:=X d 4 _ rfl;have aw:=X d 5 _ rfl;have ax:=X d 6 _ rfl;have ay:=X d 7 _ rfl;have b3:=Av d;clear d t F D;go_wp2;refine Sqk (v:=.tuple #[.agg #[(5:Int),O,Sx,O,(),(),false,.slice ah aj ai],a]) (by simp[results,results120,go_sem,ap,aq,ar,au,av,aw,ax,ay]) rfl ⟨.slice ah aj ai,?_,?_,?_⟩;·rw[A.q,Cq,E.q];rfl
    ·refine bb.q.move (λx G=>⟨Z,by rw[Yj];exact G.2⟩) (λx G=>Xy _ _ _ _ _ _ _ _ x Z)
    repeat (refine Sqh ?_ Y _)
    exact al.trans (a6.q.mono Z)
   have b7:U (∀m,m<a+1->((dat f)[m]?.map S.Cz)=some true):=by
    intro m ac;by_cases e:m=a
    ·subst e;rw[L,Sq,u]
    exact a4.q m Z
   have bt:S.Aq h.data.toList≠[]:=by intro z;unfold S.Cz at u;rw[z]at u;simp[Lib.hasPrefix]at u
   have b6:U (∀q,Calls prog 177 #[.string h] q λe l=>∃o:Sb,e=.returned o/\U (o.data.toList=S.Kl h.data.toList)/\o.size<=h.size/\q=l):=V (λq=>(zib h q bd bt).mono (λe l ⟨o,g,s,Q,R⟩=>⟨o,g,s,Q,R.symm⟩));have a1:U (∀q,Calls prog 119 #[.string h] q λe l=>e=.returned true/\q=l):=V (λq=>(Uk h q bd).mono (λe l ⟨g,s⟩=>⟨by rw[g,u],s.symm⟩));have cc:=V L;have ct:=V N;clear bt L N;have cw:U (tot (f.take (a+1))=tot (f.take a)+(h.size+1)):=V (by
    rw[Sv,ct.q];simp[tot])
   have co:=V (λc0=>M.q.alloc c0);go_wp2_with (go_at_call 119;refine(a1.q _).mono ?_;rintro e l⟨rfl,rfl⟩)
   refine(b6.q _).mono ?_;rintro e l⟨o,rfl,cq,c5,rfl⟩;have cm:U (∀m ao,([Value.string o]:List Value)[m]?=some ao->(wr.alloc (.cells #[o] 9)).cell? ((wr:Addr).add m)=some ao):=V (by
    intro m ao ac;have cf:m=0:=(by have:=(Qb.1 ac).1;simpa using this);subst cf;simp at ac;subst ac;exact X (Ak _ _) 0 _ rfl)
   go_wp2_with (at_builtin;refine wpList_append_lies _ I _ _ 32 I ((w:Nat)+1) 9 i0 (.string ⟨#[]⟩) 1 16 underlying32 ab cx cy cz I Z (.slice P a y) a (k.map Value.string) I (co.q _) wr 1 1 [.string o] I I cm.q (by intro ao bw;simp at bw;subst bw;rfl) Z (by unfold maxLen;omega) Z (by simp;omega) ((wr:Nat)+1) Y ?_)
   intro j b1 c6 bp bm b8 cl;have cn:=V bp;have ce:=V bm;have cj:=V M.q.lt;clear bp bm b8 cl;go_wp2;go_roundw
   case rel=>
    refine⟨a+1,k++[o],some ⟨j,0,none⟩,b1,Z,rfl,by rw[Qa,E.q];rfl,b7.q,?_,?_,?_,?_⟩
    ·rw[Sv,cc.q];have g:dat (k++[o])=dat k++[o.data.toList]:=(by simp[dat]);rw[g,a8.q,cq.q];simp
    ·rw[cw.q];have g:tot (k++[o])=tot k+(o.size+1):=(by simp[tot]);omega
    ·have:=cn.q;rw[Qv];exact this
    refine Sqi (K.q.alloc a0 _) ce.q (by simp;omega) (λc1 cp=>(cj.q c1 cp).1)
   case measure=>simp[lenOf];omega
  have ch:a=f.length:=Z;have d:1<=a:=by
   rcases Nat.eq_zero_or_pos f.length with z|z
   ·have:=br.q;rw[Qr (by rw[Cq];omega)]at this;simp at this
   omega
  have A:U (S.Bn (dat f)=dat k):=V (by
   rw[JF f a a4.q,a8.q,Qw (by rw[Cq];omega)];simp[S.Bn])
  obtain⟨j,r,a3,cd,aa,ba,ag⟩:∃j r,P=some ⟨j,0,none⟩/\(w:Nat)+1<=j/\wr.heap[j]?=some (.cells r 9 (0,0))/\a<=y/\r.toList.take a=k.map Value.string:=by
   rcases M.q.2 with ⟨g,s⟩|⟨j,b2,r,g,s,Q,R,b4,b5,az⟩
   ·omega
   cases g;exact⟨j,r,rfl,s,Q,R,by simpa using az⟩
  subst a3;have ae:Cx wr j 0 k:=by
   refine⟨λi h ab=>?_,Qj bu (Qj (Qj (BD f a) (Qc _)) bv)⟩;have a7:r[i]?=some (.string h):=by
    have g:(k.map Value.string)[i]?=some (.string h):=(by rw[SA,ab];rfl);rw[<-ag]at g;have a9:i<a:=(by have:=(Qb.1 g).1;rw[Ql]at this;omega);rw[Qbe a9]at g;simpa using g
   rw[Nat.zero_add];exact X aa i _ a7
  have W:j<wr:=by have:=M.q.lt j rfl;exact this.2
  have C:=bh.q j 0 y k wr (by rw[E.q];exact ba) W ae (bl.q.below (K.q.mono (by have:=af.q;omega))) (by rw[A.q.symm];exact bj.q);rw[A.q.symm,E.q]at C;have a2:=V C;clear C ae W aa ag;clear ch;go_wp2_with fail
  apply a2.m;rintro e bf⟨am,rfl,F,D⟩;obtain⟨ah,aj,ai,rfl⟩:=F.form;have t:=K.q.trans (D.mono a0);have d:=t.block w Z;rw[bz.q]at d;have cv:w<bf.heap.size:=by have:=t.size;have:=af.q;omega
  have a6:=V t;have cg:=V d;have bb:=V F;have b9:=V D;have ap:=X d 0 _ rfl;have aq:=X d 1 _ rfl;have ar:=X d 2 _ rfl;have au:=X d 3 _ rfl;have av:=X d 4 _ rfl;have aw:=X d 5 _ rfl;have ax:=X d 6 _ rfl;have ay:=X d 7 _ rfl;have b3:=Av d;clear d t F D;go_wp2;refine Sqk (v:=.tuple #[.agg #[(5:Int),O,Sx,O,(),(),false,.slice ah aj ai],a]) (by simp[results,results120,go_sem,ap,aq,ar,au,av,aw,ax,ay]) rfl ⟨.slice ah aj ai,?_,?_,?_⟩;·rw[A.q,Cq,E.q];rfl
  ·refine bb.q.move (λx G=>⟨Z,by rw[Yj];exact G.2⟩) (λx G=>Xy _ _ _ _ _ _ _ _ x Z)
  repeat (refine Sqh ?_ Y _)
  exact al.trans (a6.q.mono Z)
