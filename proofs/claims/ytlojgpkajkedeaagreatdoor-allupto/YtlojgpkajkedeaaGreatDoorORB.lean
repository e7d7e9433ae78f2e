import Derived.Test.YtlojgpkajkedeaaGreatDoorORA
import Derived.Deep.DeepCutAuto
import Derived.Deep.RegionHeld3
set_option maxHeartbeats 0
set_option maxRecDepth 100000
namespace Go.Proofs.YtlojgpkajkedeaaGreatDoor
open Go.RowKit Go.Proofs.Tryz
namespace S
theorem DY (l:List UInt8)(c:UInt8)(t:List UInt8)(a:Aq l=c::t):l.drop (Ap l)=c::t/\Ap l<=3/\c≠32:=by
 by_cases d:4<=Ap l
 ·rw[Xf l d]at a;cases a
 rw[Yt l d]at a;refine⟨a,Z,?_⟩;intro e;subst e;have f:cnt 32 (l.drop (cnt 32 l))=0:=by
  clear a d;induction l with
  |nil=>rfl
  |cons j k h=>
   by_cases g:j=32
   ·subst g;simpa [cnt]using h
   simp[cnt,g]
 rw[show Ap l=cnt 32 l from rfl]at a;rw[a]at f;simp[cnt]at f
theorem RO (l:List UInt8)(c:UInt8)(m:c≠32):l.count c+l.count 32=l.length↔∀d∈l,d=c\/d=32:=by
 induction l with
 |nil=>simp
 |cons d g j=>
  have r:=List.count_le_length (a:=c) (l:=g);have s:g.count c+g.count 32<=g.length:=by
   clear j;induction g with
   |nil=>simp
   |cons k t o=>
    have:=o (List.count_le_length);simp only[List.count_cons,Qd];by_cases f:k=c
    ·subst f;have:(k == 32)=false:=by simpa using m
     simp[this];omega
    have:(k == c)=false:=(by simpa using f);simp[this];split<;>omega
  simp only[List.count_cons,Qd,List.mem_cons,forall_eq_or_imp];by_cases f:d=c
  ·subst f;have:(d == 32)=false:=by simpa using m
   simp[this];rw[<-j];omega
  by_cases h:d=32
  ·subst h;have:((32:UInt8) == c)=false:=by simpa using f
   simp[this];rw[<-j];omega
  have p:(d == c)=false:=by simpa using f
  have q:(d == 32)=false:=by simpa using h
  simp[p,q,f,h];omega
end S
theorem Ze (s:Sb)(w:Sw)(ab:s.size<=1000000):Calls prog 89 #[s] w λe v=>e=.returned (.bool (S.Ea s))/\v=w:=by
 have y:=V (ER s w ab);have C:=V (Ur s w ab);cases u:S.Aq s.data.toList with
 |nil=>
  have af:U (S.Ea s=false):=V (by unfold S.Ea;rw[u]);rw[u]at y;rw[af.q];clear u;go_enter func89,ntmps89;go_wp2_with fail
  apply y.m;rintro e v⟨rfl,rfl⟩;go_wp2;go_ret;exact⟨rfl,rfl⟩
 |cons c g=>
  have F:=S.DY _ c g u;rw[F.1]at C;rw[u]at y;have ai:(c::g).length<=s.size:=by rw[<-F.1,Qf,S.lda];omega
  obtain⟨a,E⟩:=Qyy (S.B (c::g));rw[E]at C;have K:a.data.toList=c::g:=by rw[<-E,S.Bq]
  have au:a.size=g.length+1:=by rw[<-E,S.Bc];rfl
  have W:a.data.toList[0]?=some c:=by rw[K];rfl
  have ak:0<a.size:=Z;have T:a[0]=c:=by have:=S.Bz a 0 ak;rw[W]at this;exact(Qy this).symm
  have ag:=F.2.2;simp only[Qd]at ai;obtain⟨q,G⟩:=Qyy (S.Ea s);have P:q=((decide (c=42)||decide (c=45)||decide (c=95))&&(decide (3<=(c::g).count c)&&decide ((c::g).count c+(c::g).count 32=(c::g).length))):=by rw[<-G];unfold S.Ea;rw[u]
  rw[G];have D:=V P;have aa:=V K;have aq:=V T;have Q:=V ag;clear u F E K W G P;by_cases l:c=42\/c=45\/c=95
  ·have R:U (q=(decide (3<=(c::g).count c)&&decide ((c::g).count c+(c::g).count 32=(c::g).length))):=V (by
    rw[D.q];rcases l with f|f|f<;>simp[f])
   clear D;go_enter func89,ntmps89;go_wp2_with (fail);apply y.m;rintro e v⟨rfl,rfl⟩;go_wp2_with (fail);apply C.m;rintro e v⟨rfl,rfl⟩;go_upto_region 6 with fail
   go_cut [25] (λan ao=>an=.bool false/\v=ao)
   case first=>
    rcases l with f|f|f<;>subst f
    all_goals (go_wp2;go_meet;exact⟨rfl,rfl⟩)
   case rest=>
   obtain⟨rfl,rfl⟩:=hcut;clear T;go_wp2;go_loop [6,7] (λn i=>∃d:Nat,d<=a.size/\i=.int .i64 d/\n=.int .i64 ((a.data.toList.take d).count c:Nat)/\∀j∈a.data.toList.take d,j=c\/j=32) (λ_ i=>a.size-(intOf i).toNat)
   case atStart=>exact⟨0,Qt _,rfl,Y,Y⟩
   case round=>
    obtain⟨d,ar,rfl,rfl,m⟩:=hrel;have H:(a.data.toList.take d).count c<=d:=Qj List.count_le_length (by rw[Ql];omega);by_cases aj:d<a.size
    ·have z:=S.Bz a d aj;have A:a.data.toList.take (d+1)=a.data.toList.take d++[a[d]]:=(by rw[Sv,z];rfl);have ap:(d:Int)<(a.size:Int):=Z;by_cases k:a[d]=c
     ·have ac:((a[d].toNat:Int) == (c.toNat:Int))=true:=(by simp[k]);have al:((a[d].toNat:Int) != (c.toNat:Int))=false:=(by simp[k]);have t:U ((a.data.toList.take (d+1)).count c=(a.data.toList.take d).count c+1/\∀j∈a.data.toList.take (d+1),j=c\/j=32):=V (by
       rw[A];refine⟨by rw[List.count_append,k];simp,?_⟩;intro j h;rcases Qbh.1 h with h|h
       ·exact m j h
       simp at h;rw[h];exact .inl k)
      obtain⟨p,o⟩:=Qyy ((a.data.toList.take d).count c);rw[o]at H t ⊢;clear z m A o k;go_wp2;exact⟨⟨d+1,Z,by go_num,by rw[t.q.1];go_num,t.q.2⟩,by simp[intOf];omega⟩
     have ac:((a[d].toNat:Int) == (c.toNat:Int))=false:=by
      rw[Qe];intro f;exact k (Qk.1 Z)
     have al:((a[d].toNat:Int) != (c.toNat:Int))=true:=(by rw[bne,ac];rfl);by_cases r:a[d]=32
     ·have ae:((a[d].toNat:Int) == 32)=true:=(by simp[r]);have am:((a[d].toNat:Int) != 32)=false:=(by simp[r]);have t:U ((a.data.toList.take (d+1)).count c=(a.data.toList.take d).count c/\∀j∈a.data.toList.take (d+1),j=c\/j=32):=V (by
       rw[A];refine⟨by rw[List.count_append,List.count_singleton];simp[k],?_⟩;intro j h;rcases Qbh.1 h with h|h
       ·exact m j h
       simp at h;rw[h];exact .inr r)
      obtain⟨p,o⟩:=Qyy ((a.data.toList.take d).count c);rw[o]at H t ⊢;clear z m A o k r;go_wp2;exact⟨⟨d+1,Z,by go_num,by rw[t.q.1],t.q.2⟩,by simp[intOf];omega⟩
     have ae:((a[d].toNat:Int) == 32)=false:=by
      rw[Qe];intro f;exact r (Qk.1 (by show a[d].toNat=32;omega))
     have am:((a[d].toNat:Int) != 32)=true:=(by rw[bne,ae];rfl);have x:U (q=false):=V (by
      rw[R.q];have:¬((c::g).count c+(c::g).count 32=(c::g).length):=by
       rw[S.RO _ _ Q.q];intro f;rcases f a[d] (by rw[<-aa.q];exact SN z)with f|f
       ·exact k f
       exact r f
      rw[Si this,Bool.and_false])
     clear z m A k r;go_wp2;go_ret;exact⟨Dy x.q.symm,rfl⟩
    have ah:d=a.size:=Z;subst ah;have x:U (decide ((3:Int)<=((a.data.toList.take a.size).count c:Nat))=q):=V (by
     have e:a.data.toList.take a.size=a.data.toList:=Qbj (by rw[S.lda];omega);rw[e]at m ⊢;rw[R.q,<-aa.q,Sl ((S.RO _ _ Q.q).2 m),Bool.and_true,decide_eq_decide];omega)
    obtain⟨p,o⟩:=Qyy ((a.data.toList.take a.size).count c);rw[o]at H x ⊢;clear m o;go_wp2;go_ret;exact⟨Dy x.q,rfl⟩
  have x:U (q=false):=V (by
   rw[D.q];have L:c≠42:=λf=>l (.inl f);have M:c≠45:=λf=>l (.inr (.inl f));have N:c≠95:=λf=>l (.inr (.inr f));simp[L,M,N])
  have L:((c.toNat:Int) != 42)=true:=by rw[bne_iff_ne];intro f;exact l (.inl (Qk.1 (by show c.toNat=42;omega)))
  have M:((c.toNat:Int) != 45)=true:=by rw[bne_iff_ne];intro f;exact l (.inr (.inl (Qk.1 (by show c.toNat=45;omega))))
  have N:((c.toNat:Int) != 95)=true:=by rw[bne_iff_ne];intro f;exact l (.inr (.inr (Qk.1 (by show c.toNat=95;omega))))
  rw[x.q];clear D l;go_enter func89,ntmps89;go_wp2_with fail
  apply y.m;rintro e v⟨rfl,rfl⟩;go_wp2_with fail
  apply C.m;rintro e v⟨rfl,rfl⟩;go_wp2;go_ret;exact⟨rfl,rfl⟩
theorem Rl (s:Sb)(k:s.size<=1000000)(c:UInt8)(t:List UInt8)(l:S.Aq s=c::t):∃d:Sb,d.data.toList=c::t/\d.size=t.length+1/\(∀j:0<d.size,d[0]=c)/\t.length+1<=s.size/\c≠32 /\
   (∀w,Calls prog 127 #[s] w λe f=>e=.returned true/\w=f)/\(∀w,Calls prog 128 #[s] w λe f=>e=.returned d/\w=f):=by
 have h:=S.DY _ c t l;refine⟨S.B (c::t),S.Bq _,by rw[S.Bc];rfl,?_,?_,h.2.2,?_,?_⟩
 ·intro j;have a:=S.Bz (S.B (c::t)) 0 j;rw[S.Bq]at a;exact(Qy a).symm
 ·have:(c::t).length<=s.size:=by rw[<-h.1,Qf,S.lda];omega
  simpa using this
 ·intro w;have:=ER s w k;rw[l]at this;exact this.mono (λe f ⟨a,g⟩=>⟨a,g.symm⟩)
 intro w;have:=Ur s w k;rw[h.1]at this;exact this.mono (λe f ⟨a,g⟩=>⟨a,g.symm⟩)
theorem Um (s:Sb)(g:s.size<=1000000)(h:S.Aq s=[])(w:Sw):Calls prog 127 #[s] w λe a=>e=.returned false/\w=a:=by
 have:=ER s w g;rw[h]at this;exact this.mono (λe a ⟨d,f⟩=>⟨d,f.symm⟩)
theorem Yw (s:Sb)(w:Sw)(l:s.size<=1000000):Calls prog 92 #[s] w λe g=>e=.returned (.bool (S.Cz s))/\g=w:=by
 cases a:S.Aq s.data.toList with
 |nil=>
  have d:S.Cz s=false:=by unfold S.Cz;rw[a];rfl
  have f:=V (Um s l a w);rw[d];clear d a;go_enter func92,ntmps92;go_wp2_with fail
  apply f.m;rintro e g⟨rfl,rfl⟩;go_wp2;go_ret;exact⟨rfl,rfl⟩
 |cons c t=>
  obtain⟨r,p,y,k,x,u,f,j⟩:=Rl s l c t a;have q:0<r.size:=Z;have v:=k q;have d:U (S.Cz s=((c.toNat:Int) == 62)):=V (by
   unfold S.Cz;rw[a];rw[SC,Sqb];constructor
   ·intro h;simp[Lib.hasPrefix]at h;subst h;rfl
   intro h;have:c=62:=Qk.1 (by show c.toNat=62;omega);subst this;rfl)
  have m:=V (f w);have o:=V (j w);clear a p k f j;go_enter func92,ntmps92;go_wp2_with fail
  apply m.m;rintro e g⟨rfl,rfl⟩;go_wp2_with fail
  apply o.m;rintro e g⟨rfl,rfl⟩;go_wp2;go_ret;exact⟨Dy d.q.symm,rfl⟩
theorem zl6 (s:Sb)(c:UInt8)(n:Nat)(w:Sw)(A:s.size<=1000000)(N:1<=n)(P:n<=1000000):Calls prog 141 #[s,.int .u8 (c.toNat:Int),n] w λe d=>e=.returned (.bool (S.Jg c n s))/\d=w:=by
 cases h:S.Aq s.data.toList with
 |nil=>
  have g:S.Jg c n s=false:=by
   unfold S.Jg;rw[h];simp[S.cnt];omega
  have l:=V (Um s A h w);rw[g];clear g h;go_enter func141,ntmps141;go_wp2_with fail
  apply l.m;rintro e d⟨rfl,rfl⟩;go_wp2;go_ret;exact⟨rfl,rfl⟩
 |cons D G=>
  obtain⟨a,z,F,E,M,L,l,t⟩:=Rl s A D G h;have m:=Nq a 0 c w Z Z;rw[List.drop_zero]at m;have y:=S.Gf c a;rw[S.lda]at y;have g:S.Jg c n s=(decide ((n:Int)<=(S.cnt c a:Int))&&S.Ar (a.data.toList.drop (S.cnt c a))):=by
   unfold S.Jg;rw[h,z]
  obtain⟨f,x⟩:=Qyy (S.cnt c a);rw[x]at m g y;have k:=Lb (a.extract f a.size) w (by simp;omega);rw[S.Iw]at k;obtain⟨j,v⟩:=Qyy (S.Ar (a.data.toList.drop f));rw[v]at k g;rw[g];have r:=V m;have p:=V k;have q:=V (l w);have u:=V (t w);have H:(0:Int)<=(f:Int):=Z;have K:(f:Int)<=(a.size:Int):=Z;clear h z E l t m k g x v F;by_cases C:(n:Int)<=(f:Int)
  ·have o:U ((decide ((n:Int)<=(f:Int))&&j)=j):=V (by rw[Sl C,Bool.true_and]);rw[o.q];go_enter func141,ntmps141;go_wp2_with (fail);apply q.m;rintro e d⟨rfl,rfl⟩;go_wp2_with (fail);apply u.m;rintro e d⟨rfl,rfl⟩;go_wp2_with (fail);apply r.m;rintro e d⟨rfl,rfl⟩;go_wp2_with (fail);apply p.m;rintro e d⟨rfl,rfl⟩;go_wp2;go_ret;exact⟨rfl,rfl⟩
  have o:U ((decide ((n:Int)<=(f:Int))&&j)=false):=V (by rw[Si C,Bool.false_and]);rw[o.q];go_enter func141,ntmps141;go_wp2_with fail
  apply q.m;rintro e d⟨rfl,rfl⟩;go_wp2_with fail
  apply u.m;rintro e d⟨rfl,rfl⟩;go_wp2_with fail
  apply r.m;rintro e d⟨rfl,rfl⟩;go_wp2_with fail
  apply p.m;rintro e d⟨rfl,rfl⟩;go_wp2;go_ret;exact⟨rfl,rfl⟩
namespace S
theorem AR (c:UInt8)(l:List UInt8):cnt c l=l.length↔∀d∈l,d=c:=by
 induction l with
 |nil=>simp[cnt]
 |cons d g f=>
  have:=Gf c g;simp only[cnt,Qd,List.mem_cons,forall_eq_or_imp];by_cases a:d=c
  ·rw[if_pos a];constructor
   ·intro e;exact⟨a,f.1 Z⟩
   intro e;rw[f.2 e.2]
  rw[if_neg a];constructor
  ·intro e;omega
  intro e;exact absurd e.1 a
theorem zg8 (l:List UInt8)(c:UInt8):∃d,l=Lib.trimRightB l c++d/\∀f∈d,f=c:=by
 induction l with
 |nil=>exact⟨[],rfl,Y⟩
 |cons f m o=>
  obtain⟨d,a,g⟩:=o;rw[Un];by_cases h:Lib.trimRightB m c=[]
  ·rw[if_pos h];rw[h,SY]at a;by_cases j:f=c
   ·rw[if_pos j];exact⟨f::m,rfl,by rw[a];intro p k;rcases Sc.1 k with rfl|k;exact j;exact g p k⟩
   rw[if_neg j];exact⟨m,rfl,by rw[a];exact g⟩
  rw[if_neg h];exact⟨d,by rw[SB,<-a],g⟩
theorem UZ (l:List UInt8)(c:UInt8):(Lib.trimRightB l c).getLast?≠some c:=by
 induction l with
 |nil=>simp[Lib.trimRightB]
 |cons j h g=>
  rw[Un];by_cases a:Lib.trimRightB h c=[]
  ·rw[if_pos a];by_cases d:j=c
   ·rw[if_pos d];simp
   rw[if_neg d];simpa using d
  rw[if_neg a];cases f:Lib.trimRightB h c with
  |nil=>exact absurd f a
  |cons m k=>rw[f]at g;rw[List.getLast?_cons_cons];exact g
theorem zji (c:UInt8)(l:List UInt8)(g:UInt8)(i:Nat)(f:i<cnt c l)(a:l[i]?=some g):g=c:=by
 induction l generalizing i with
 |nil=>simp at a
 |cons j k h=>
  simp only[cnt]at f;by_cases d:j=c
  ·rw[if_pos d]at f;cases i with
   |zero=>simp at a;rw[<-a];exact d
   |succ i=>exact h i Z (by simpa using a)
  rw[if_neg d]at f;omega
theorem LB (l:List UInt8)(c:UInt8)(F:c≠32)(z:∃g j,l=g::j/\g≠32):rowOf l c=decide (cnt c (Lib.trimRightB l 32)=(Lib.trimRightB l 32).length):=by
 obtain⟨g,j,rfl,hd⟩:=z;obtain⟨d,q,r⟩:=zg8 (g::j) 32;have v:Lib.trimRightB (g::j) 32≠[]:=by
  rw[Un,if_neg hd];split<;>simp
 obtain⟨a,s⟩:=Qyy (Lib.trimRightB (g::j) 32);rw[s]at q v ⊢;rw[SC,Sd,AR];unfold rowOf;rw[SE,Sd,q];have E:∀(h k:List UInt8),(∀f∈h,f=c)->(∀f∈k,f=32)->cnt c (h++k)=h.length:=by
  intro h k x L;induction h with
  |nil=>
   cases k with
   |nil=>rfl
   |cons m k=>simp[cnt,L m Y];exact λe=>F e.symm
  |cons m h M=>
   have e:=x m Y;have:=M (λf p=>x f (by simp[p]));simp only[List.cons_append,cnt,Qd,if_pos e,this]
 constructor
 ·rintro⟨N,A⟩ f p;have C:∀b∈(a++d).drop (cnt c (a++d)),b=32:=by
   have:=A;unfold Ar Ap at this;rw[Sd]at this;exact(AR 32 _).1 this
  obtain⟨i,t⟩:=List.getElem?_of_mem p;have H:=(Qb.1 t).1;have G:(a++d)[i]?=some f:=by rw[Qbd H];exact t
  by_cases K:i<cnt c (a++d)
  ·exact zji c _ f i K G
  exfalso
  have u:=UZ (g::j) 32;rw[s]at u;apply u
  rw[List.getLast?_eq_getElem?];have o:a.length-1<a.length:=Z;rw[Qg o];congr 1
  apply C
  have e:(a++d)[a.length-1]?=some a[a.length-1]:=by rw[Qbd o];exact Qg o
  have y:((a++d).drop (cnt c (a++d)))[a.length-1-cnt c (a++d)]?=some a[a.length-1]:=by
   rw[Qn,show cnt c (a++d)+(a.length-1-cnt c (a++d))=a.length-1 by omega];exact e
  exact SN y
 intro D;rw[E a d D r];refine⟨Qbf.2 v,?_⟩;unfold Ar Ap;rw[Sd,List.drop_left,(AR 32 d).2 r]
end S
theorem zni (s:Sb)(w:Sw)(A:s.size<=1000000):Calls prog 143 #[s] w λe d=>e=.returned (.int .i64 (S.Ez s:Nat))/\d=w:=by
 cases j:S.Aq s.data.toList with
 |nil=>
  have h:S.Ez s=0:=by unfold S.Ez;rw[j];rfl
  have q:=V (Um s A j w);rw[h];clear h j;go_enter func143,ntmps143;go_wp2_with fail
  apply q.m;rintro e d⟨rfl,rfl⟩;go_wp2;go_ret;exact⟨rfl,rfl⟩
 |cons g f=>
  obtain⟨_,_,_,_,N,D,q,_⟩:=Rl s A g f j;have K:=S.DY _ g f j;have p:=GK s w A;rw[<-S.P7,show S.cnt 32 s.data.toList=S.Ap s.data.toList from rfl,K.1]at p;obtain⟨a,y⟩:=Qyy (S.B (Lib.trimRightB (g::f) 32));have z:Lib.trimRightB (g::f) 32=a.data.toList:=by rw[<-y,S.Bq]
  have P:a.size<=f.length+1:=by rw[<-S.lda,<-z];exact S.Po _ _
  rw[y]at p;have r:=Nq a 0 61 w Z Z;have t:=Nq a 0 45 w Z Z;rw[List.drop_zero]at r t;have h:S.Ez s=if S.cnt 61 a.data.toList=a.size then 1 else if S.cnt 45 a.data.toList=a.size then 2 else 0:=by
   unfold S.Ez;rw[j,S.LB (g::f) 61 J ⟨g,f,rfl,D⟩,S.LB (g::f) 45 J ⟨g,f,rfl,D⟩,z,S.lda];simp only[decide_eq_true_eq]
  have G:=S.Gf 61 a.data.toList;have H:=S.Gf 45 a.data.toList;rw[S.lda]at G H;obtain⟨k,E⟩:=Qyy (S.cnt 61 a.data.toList);obtain⟨l,F⟩:=Qyy (S.cnt 45 a.data.toList);rw[E]at r h G;rw[F]at t h H;have v:=V (q w);have u:=V p;have x:=V r;have C:=V t;rw[h];clear j q p r t h y z E F K;by_cases m:k=a.size
  ·have L:(k:Int)=(a.size:Int):=Z;rw[if_pos m];clear m;go_enter func143,ntmps143;go_wp2_with (fail);apply v.m;rintro e d⟨rfl,rfl⟩;go_wp2_with (fail);apply u.m;rintro e d⟨rfl,rfl⟩;go_wp2_with (fail);apply x.m;rintro e d⟨rfl,rfl⟩;go_wp2;go_ret;exact⟨rfl,rfl⟩
  have L:¬(k:Int)=(a.size:Int):=Z;rw[if_neg m];clear m;by_cases o:l=a.size
  ·have M:(l:Int)=(a.size:Int):=Z;rw[if_pos o];clear o;go_enter func143,ntmps143;go_wp2_with (fail);apply v.m;rintro e d⟨rfl,rfl⟩;go_wp2_with (fail);apply u.m;rintro e d⟨rfl,rfl⟩;go_wp2_with (fail);apply x.m;rintro e d⟨rfl,rfl⟩;go_wp2_with (fail);apply C.m;rintro e d⟨rfl,rfl⟩;go_wp2;go_ret;exact⟨rfl,rfl⟩
  have M:¬(l:Int)=(a.size:Int):=Z;rw[if_neg o];clear o;go_enter func143,ntmps143;go_wp2_with fail
  apply v.m;rintro e d⟨rfl,rfl⟩;go_wp2_with fail
  apply u.m;rintro e d⟨rfl,rfl⟩;go_wp2_with fail
  apply x.m;rintro e d⟨rfl,rfl⟩;go_wp2_with fail
  apply C.m;rintro e d⟨rfl,rfl⟩;go_wp2;go_ret;exact⟨rfl,rfl⟩
namespace S
theorem Zw (l:List UInt8)(c:UInt8):Lib.hasSuffix l [c]=true↔l.getLast?=some c:=by
 unfold Lib.hasSuffix;rw[List.isSuffixOf_iff_suffix];constructor
 ·rintro⟨a,rfl⟩;simp
 intro d;obtain⟨a,rfl⟩:=List.getLast?_eq_some_iff.1 d;exact⟨a,rfl⟩
theorem ZR (l:List UInt8)(k:Nat)(d:Lib.trimRightB (F3 l) 35=(F3 l).take k)(f:k<(F3 l).length)(a:k=0\/(F3 l)[k-1]?=some 32):Fp l=Lib.trimRightB ((F3 l).take k) 32:=by
 unfold Fp;rw[d];rw[if_pos];cases k with
 |zero=>exact .inl rfl
 |succ k=>
  rcases a with a|a
  ·omega
  right
  rw[Zw,List.getLast?_eq_getElem?,Ql,SI Z,Qbe Z];exact a
theorem zcu (l:List UInt8)(k:Nat)(g:Lib.trimRightB (F3 l) 35=(F3 l).take k)(d:k=(F3 l).length\/(0<k/\k<(F3 l).length/\(F3 l)[k-1]?≠some 32)):Fp l=F3 l:=by
 have h:(F3 l).getLast?≠some 32:=by
  unfold F3;rw[<-P7];exact UZ _ _
 unfold Fp;rw[g];rcases d with d|⟨j,m,f⟩
 ·rw[d,Qbl];split
  ·rename_i a;rcases a with a|a
   ·rw[List.isEmpty_iff.1 a];rfl
   rw[Zw]at a;exact absurd a h
  rfl
 rw[if_neg];rintro(a|a);·have:=congrArg List.length (List.isEmpty_iff.1 a);rw[Ql,Qi]at this;omega
 rw[Zw,List.getLast?_eq_getElem?,Ql,SI Z,Qbe Z]at a;exact f a
end S
theorem LJ (s:Sb)(w:Sw)(aw:s.size<=1000000):Calls prog 90 #[s] w λe j=>∃al:Sb,e=.returned (.tuple #[(S.En s:Nat),al])/\U (0<S.En s->al=S.B (S.Fp s))/\j=w:=by
 cases r:S.Aq s.data.toList with
 |nil=>
  have q:S.En s=0:=by unfold S.En;rw[r];rfl
  have D:=V (Um s aw r w);rw[q];clear q r;go_enter func90,ntmps90;go_wp2_with fail
  apply D.m;rintro e j⟨rfl,rfl⟩;go_wp2;go_ret2;exact⟨⟨#[]⟩,rfl,V (λg=>Z),rfl⟩
 |cons ay a9=>
  obtain⟨d,K,a7,ab,bi,bh,D,P⟩:=Rl s aw ay a9 r;have E:=Nq d 0 35 w Z Z;rw[List.drop_zero]at E;have av:=S.Gf 35 d.data.toList;rw[S.lda]at av;have q:S.En s=if 6<S.cnt 35 d.data.toList\/S.Fa d (S.cnt 35 d.data.toList)=false then 0 else S.cnt 35 d.data.toList:=by
   unfold S.En;rw[r,K]
  have F:S.F3 s=Lib.trimB (d.data.toList.drop (S.cnt 35 d.data.toList)) 32:=by unfold S.F3;rw[r,K]
  obtain⟨n,Q⟩:=Qyy (S.cnt 35 d.data.toList);rw[Q]at E q av F;have C:=GK (d.extract n d.size) w (by simp;omega);rw[S.Iw,<-F]at C;obtain⟨M,k⟩:=Qyy (S.F3 s);have a2:M.length<=d.size:=by
   rw[<-k,F];have:=S.Ul (d.data.toList.drop n) 32;rw[Qf,S.lda]at this;omega
  have W:=V E;have T:=V (D w);have aa:=V (P w);have bf:(0:Int)<=(n:Int):=Z;have bg:(n:Int)<=(d.size:Int):=Z;by_cases v:n<1\/6<n\/(n<d.size/\d.data.toList[n]?≠some 32)
  ·have R:S.En s=0:=by
    rw[q];rcases v with g|g|g
    ·split<;>omega
    ·rw[if_pos (.inl g)]
    have az:S.Fa d n=false:=by
     unfold S.Fa;rw[S.lda,Si Z,Si g.2];rfl
    rw[if_pos (.inr az)]
   have ai:n<d.size->d.data.toList[n]?=some d[n]!:=λg=>by rw[S.Bz d n g];simp[getElem!_pos,g]
   rw[R];by_cases u:n<1
   ·have am:(n:Int)<1:=Z;clear r K ab D P E q Q C F k R v ai;go_enter func90,ntmps90;go_wp2_with (fail);apply T.m;rintro e j⟨rfl,rfl⟩;go_wp2_with (fail);apply aa.m;rintro e j⟨rfl,rfl⟩;go_wp2_with (fail);apply W.m;rintro e j⟨rfl,rfl⟩;go_wp2;go_ret2;exact⟨⟨#[]⟩,rfl,V (λg=>Z),rfl⟩
   have am:¬(n:Int)<1:=Z;by_cases p:6<n
   ·have an:(6:Int)<(n:Int):=Z;clear r K ab D P E q Q C F k R v ai;go_enter func90,ntmps90;go_wp2_with (fail);apply T.m;rintro e j⟨rfl,rfl⟩;go_wp2_with (fail);apply aa.m;rintro e j⟨rfl,rfl⟩;go_wp2_with (fail);apply W.m;rintro e j⟨rfl,rfl⟩;go_wp2;go_ret2;exact⟨⟨#[]⟩,rfl,V (λg=>Z),rfl⟩
   have an:¬(6:Int)<(n:Int):=Z;have A:n<d.size/\d.data.toList[n]?≠some 32:=by
    rcases v with g|g|g
    ·omega
    ·omega
    exact g
   have ak:=A.1;have ao:(n:Int)<(d.size:Int):=Z;have ag:((d[n].toNat:Int) != 32)=true:=by
    rw[bne_iff_ne];intro g;apply A.2
    rw[S.Bz d n A.1];congr 1
    exact Qk.1 (by show d[n].toNat=32;omega)
   clear r K ab D P E q Q C F k R v ai A;go_enter func90,ntmps90;go_wp2_with (fail);apply T.m;rintro e j⟨rfl,rfl⟩;go_wp2_with (fail);apply aa.m;rintro e j⟨rfl,rfl⟩;go_wp2_with (fail);apply W.m;rintro e j⟨rfl,rfl⟩;go_wp2;go_ret2;exact⟨⟨#[]⟩,rfl,V (λg=>Z),rfl⟩
  have bk:1<=n/\n<=6:=Z;have aq:S.En s=n:=by
   rw[q,if_neg];rintro(g|g);·omega
   apply v
   unfold S.Fa at g;rw[Bool.or_eq_false_iff,S.lda]at g;exact .inr (.inr ⟨by have:=of_decide_eq_false g.1;omega,of_decide_eq_false g.2⟩)
  rw[aq];obtain⟨a,ac⟩:=Qyy (S.B M);have z:M=a.data.toList:=by rw[<-ac,S.Bq]
  have bl:a.size<=d.size:=by rw[<-S.lda,<-z];exact a2
  rw[k,ac]at C;have ap:U (∀f,Lib.trimRightB a 35=a.data.toList.take f->f<a.size->(f=0\/a.data.toList[f-1]?=some 32)->S.B (Lib.trimRightB (a.extract 0 f).data.toList 32)=S.B (S.Fp s)):=V (λf u p A=>by
   rw[S.ZR s f (by rw[k,z];exact u) (by rw[k,z,S.lda];exact p) (by rw[k,z];exact A),k,z,X3,S.Bq])
  have ah:U (∀f,Lib.trimRightB a 35=a.data.toList.take f->(f=a.size\/(0<f/\f<a.size/\a.data.toList[f-1]?≠some 32))->a=S.B (S.Fp s)):=V (λf u p=>by
   rw[S.zcu s f (by rw[k,z];exact u) (by rw[k,z,S.lda];exact p),k,ac])
  have ar:U (∀f,f<=a.size->∀L,Calls prog 130 #[.string (a.extract 0 f)] L λe j=>e=.returned (.string (S.B (Lib.trimRightB (a.extract 0 f).data.toList 32)))/\L=j):=V (λf a5 L=>(Wi (a.extract 0 f) L (by simp;omega)).mono (λe j ⟨u,p⟩=>⟨u,p.symm⟩));have a0:=V C;have am:¬(n:Int)<1:=Z;have an:¬(6:Int)<(n:Int):=Z;have au:n<d.size->((d.data.toList[n]?=some 32)):=λg=>by
   by_cases e:d.data.toList[n]?=some 32
   ·exact e
   exact absurd (.inr (.inr ⟨g,e⟩)) v
  have ax:U (n<d.size->∀g:n<d.size,((d[n].toNat:Int) != 32)=false):=V (λ_ g=>by
   have:=au g;rw[S.Bz d n g]at this;have e:d[n]=32:=Qy this;simp[e])
  have bm:d.size<=1000000:=Z;clear r K ab D P E q Q C F k aq v ac z au a7;go_enter func90,ntmps90;go_wp2_with fail
  apply T.m;rintro e j⟨rfl,rfl⟩;go_wp2_with fail
  apply aa.m;rintro e j⟨rfl,rfl⟩;go_wp2_with fail
  apply W.m;rintro e j⟨rfl,rfl⟩;go_upto_region 6 with fail
  go_cut [34] (λa8 L=>a8=.bool false/\j=L)
  case first=>
   by_cases ak:n<d.size
   ·have ao:(n:Int)<(d.size:Int):=Z;have ag:=ax.q ak ak;go_wp2;go_meet;exact⟨by first|rfl|(have ae:¬(n:Int)<1:=Z;have af:¬(6:Int)<(n:Int):=Z;rw[Si ae,Si af];rfl),rfl⟩
   have ao:¬(n:Int)<(d.size:Int):=Z;go_wp2;go_meet;exact⟨by first|rfl|(have ae:¬(n:Int)<1:=Z;have af:¬(6:Int)<(n:Int):=Z;rw[Si ae,Si af];rfl),rfl⟩
  case rest=>
  obtain⟨rfl,rfl⟩:=hcut;clear ax;go_wp2_with fail
  apply a0.m;rintro e j⟨rfl,rfl⟩;go_wp2;go_loop [8] (λi=>∃f:Nat,f<=a.size/\i=.int .i64 f/\∀o,f<=o->o<a.data.toList.length->a.data.toList[o]?=some 35) (λi=>(intOf i).toNat)
  case atStart=>exact⟨a.size,Qc _,rfl,by intro o a4 aj;rw[S.lda]at aj;omega⟩
  case round=>
   obtain⟨f,a5,rfl,t⟩:=hrel;have bb:(0:Int)<=(f:Int):=Z;have bc:(f:Int)<=(a.size:Int):=Z;by_cases ba:0<f
   ·obtain⟨h,rfl⟩:∃h,f=h+1:=⟨f-1,Z⟩;have y:=S.Bz a h Z;have bn:IntKind.i64.wrap (((h+1:Nat):Int)-1)=(h:Int):=(by rw[Sqe];omega);have bd:(h:Int)<(a.size:Int):=Z;have bj:h<a.size:=Z;by_cases x:a[h]=35
    ·have u:((a[h].toNat:Int) == 35)=true:=(by simp[x]);have a3:U (∀o,h<=o->o<a.data.toList.length->a.data.toList[o]?=some 35):=by
      intro o a4 aj;by_cases e:o=h
      ·subst e;rw[y,x]
      exact t o Z aj
     clear y t x;go_wp2;exact⟨⟨h,Z,by go_num,a3.q⟩,by simp[intOf]⟩
    have u:((a[h].toNat:Int) == 35)=false:=by
     rw[Qe];intro g;exact x (Qk.1 (by show a[h].toNat=35;omega))
    have m:=S.Xr a 35 (h+1) (by rw[S.lda];omega) t (.inr (by rw[SF,y];simpa using x));by_cases H:h+1=a.size
    ·have l:=V (ah.q (h+1) m (.inl H));have p:¬(((h+1:Nat):Int))<(a.size:Int):=Z;clear y t x m H;go_wp2;go_ret2;exact⟨a,rfl,V (λ_=>l.q),rfl⟩
    have p:(((h+1:Nat):Int))<(a.size:Int):=Z;have A:¬(((h+1:Nat):Int))=0:=Z;by_cases G:a[h]=32
    ·have ag:((a[h].toNat:Int) == 32)=true:=(by simp[G]);have l:=V (ap.q (h+1) m Z (.inr (by rw[SF,y,G])));have N:=V (ar.q (h+1) Z);clear y t x m G;go_wp2_with (fail);refine(N.q _).mono ?_;rintro e j⟨rfl,rfl⟩;go_wp2;go_ret2;exact⟨_,rfl,V (λ_=>by first|exact l.q|(have:=l.q;rw[X3,S.Bq]at this;exact this)),rfl⟩
    have ag:((a[h].toNat:Int) == 32)=false:=by
     rw[Qe];intro g;exact G (Qk.1 (by show a[h].toNat=32;omega))
    have l:=V (ah.q (h+1) m (.inr ⟨Z,Z,by rw[SF,y];simpa using G⟩));clear y t x m G;go_wp2;go_ret2;exact⟨a,rfl,V (λ_=>l.q),rfl⟩
   have a6:f=0:=Z;subst a6;have m:Lib.trimRightB a 35=a.data.toList.take 0:=S.Xr a 35 0 (Qt _) t (.inl rfl);by_cases H:a.size=0
   ·have l:=V (ah.q 0 m (.inl H.symm));have p:¬(0:Int)<(a.size:Int):=Z;clear t m H;go_wp2;go_ret2;exact⟨a,rfl,V (λ_=>l.q),rfl⟩
   have p:(0:Int)<(a.size:Int):=Z;have l:=V (ap.q 0 m Z (.inl rfl));have N:=ar.q 0 Z;rw[show a.extract 0 0=ByteArray.empty by rw[X3];rfl]at N l;have a1:=V N;clear t m H N;go_wp2_with (fail);refine(a1.q _).mono ?_;rintro e j⟨rfl,rfl⟩;go_wp2;go_ret2;exact⟨_,rfl,V (λ_=>l.q),rfl⟩
def Ns (l:List UInt8)(m k:Int)(a:Sb):Prop:=(0<=k/\k<=1000000)/\if (S.Bp l).ok=true then m=((S.Bp l).mark.toNat:Int)/\k=((S.Bp l).width:Int)/\a=S.B (S.Bp l).info else k=0
theorem LX (s:Sb)(w:Sw)(ac:s.size<=1000000):Calls prog 91 #[s] w λe g=>∃(ae d:Int) (af:Sb),e=.returned (.tuple #[.int .u8 ae,d,af])/\U (Ns s ae d af)/\g=w:=by
 cases m:S.Aq s.data.toList with
 |nil=>
  have j:U (Ns s 0 0 ⟨#[]⟩):=V ⟨Z,by rw[S.Zd _ m];rfl⟩;have r:=V (Um s ac m w);clear m;go_enter func91,ntmps91;go_wp2_with fail
  apply r.m;rintro e g⟨rfl,rfl⟩;go_wp2;go_ret3
  exact⟨0,0,⟨#[]⟩,rfl,j,rfl⟩
 |cons c T=>
  obtain⟨h,F,P,E,aw,au,r,C⟩:=Rl s ac c T m;have am:0<h.size:=Z;have av:=E am;have t:=Nq h 0 c w Z Z;rw[List.drop_zero]at t;have aa:=S.Gf c h;rw[S.lda]at aa;have l:c=96\/c=126->S.Bp s=⟨c,S.cnt c h,S.Ap s,S.Nk h c,S.Hl c (S.cnt c h) (S.Nk h c)⟩:=λf=>by rw[F];exact S.Xh _ c T m f
  have A:¬c=96->¬c=126->S.Bp s=⟨0,0,0,[],false⟩:=S.FM _ c T m;obtain⟨n,z⟩:=Qyy (S.cnt c h);rw[z]at t l aa;have o:=GK (h.extract n h.size) w (by simp;omega);rw[S.Iw]at o;obtain⟨info,x⟩:=Qyy (S.Nk h c);have y:Lib.trimB (h.data.toList.drop n) 32=info:=by rw[<-x];unfold S.Nk;rw[z]
  rw[y]at o;rw[x]at l;obtain⟨a,q⟩:=Qyy (S.B info);have u:info=a.data.toList:=by rw[<-q,S.Bq]
  have ax:a.size<=1000000:=by
   rw[<-S.lda,<-u,<-y];have:=S.Ul (h.data.toList.drop n) 32;rw[Qf,S.lda]at this;omega
  rw[q]at o;have H:=V t;have G:=V (r w);have K:=V (C w);have W:=V o;have aq:(0:Int)<=(n:Int):=Z;have ar:(n:Int)<=(h.size:Int):=Z;have ay:h.size<=1000000:=Z;by_cases p:c=96\/c=126
  ·by_cases Q:n<3
   ·have j:U (Ns s 0 0 ⟨#[]⟩):=V ⟨Z,by
     rw[l p,if_neg];show ¬S.Hl c n info=true;unfold S.Hl;rw[Si Z];simp⟩
    have ag:(n:Int)<3:=Z;clear m F E r C t z o l A x y q u P Q;rcases p with f|f<;>subst f
    all_goals
     go_enter func91,ntmps91;go_wp2_with (fail);apply G.m;rintro e g⟨rfl,rfl⟩;go_wp2_with (fail);apply K.m;rintro e g⟨rfl,rfl⟩;go_wp2_with (fail);apply H.m;rintro e g⟨rfl,rfl⟩;go_wp2;go_ret3
     exact⟨0,0,⟨#[]⟩,rfl,j,rfl⟩
   have ag:¬(n:Int)<3:=Z;rcases p with f|f
   ·subst f;have al:U (Ns s 96 n a\/96∈a.data.toList):=V (by
     by_cases N:96∈a.data.toList
     ·exact .inr N
     left
     refine⟨Z,?_⟩;rw[l (.inl rfl)];have:S.Hl 96 n info=true:=(by unfold S.Hl;rw[u,Sl (show 3<=n by omega),Si N];rfl);rw[if_pos this];exact⟨rfl,rfl,q.symm⟩)
    have ak:U (96∈a.data.toList->Ns s 0 0 ⟨#[]⟩):=V (λN=>⟨Z,by
     rw[l (.inl rfl)];have:S.Hl 96 n info=false:=(by unfold S.Hl;rw[u,Sl N];simp);rw[if_neg (by rw[this];simp)]⟩)
    clear m F E r C t z o l A x y q u P Q;go_enter func91,ntmps91;go_wp2_with (fail);apply G.m;rintro e g⟨rfl,rfl⟩;go_wp2_with (fail);apply K.m;rintro e g⟨rfl,rfl⟩;go_wp2_with (fail);apply H.m;rintro e g⟨rfl,rfl⟩;go_wp2_with (fail);apply W.m;rintro e g⟨rfl,rfl⟩;go_wp2;go_loop [10] (λi=>∃d:Nat,d<=a.size/\i=.int .i64 d/\∀k,k<d->a.data.toList[k]?≠some 96) (λi=>a.size-(intOf i).toNat)
    case atStart=>exact⟨0,Qt _,rfl,by intro k M;omega⟩
    case round=>
     obtain⟨d,aj,rfl,D⟩:=hrel;by_cases ab:d<a.size
     ·have L:=S.Bz a d ab;have R:(d:Int)<(a.size:Int):=Z;by_cases v:a[d]=96
      ·have an:((a[d].toNat:Int) == 96)=true:=(by simp[v]);have j:=V (ak.q (by have:=SN L;rwa [v]at this));clear L D v;go_wp2;go_ret3
       exact⟨0,0,⟨#[]⟩,rfl,j,rfl⟩
      have an:((a[d].toNat:Int) == 96)=false:=by
       rw[Qe];intro f;exact v (Qk.1 (by show a[d].toNat=96;omega))
      have ah:U (∀k,k<d+1->a.data.toList[k]?≠some 96):=V (by
       intro k M;by_cases e:k=d
       ·subst e;rw[L];simpa using v
       exact D k Z)
      clear L D v;go_wp2;exact⟨⟨d+1,Z,by go_num,ah.q⟩,by simp[intOf];omega⟩
     have j:U (Ns s 96 n a):=V (by
      rcases al.q with f|f
      ·exact f
      exfalso
      obtain⟨k,M⟩:=List.getElem?_of_mem f;have ai:=(Qb.1 M).1;rw[S.lda]at ai;exact D k Z M)
     have R:¬(d:Int)<(a.size:Int):=Z;clear D;go_wp2;go_ret3
     exact⟨96,n,a,rfl,j,rfl⟩
   subst f;have j:U (Ns s 126 n a):=V (by
    refine⟨Z,?_⟩;rw[l (.inr rfl)];have:S.Hl 126 n info=true:=(by unfold S.Hl;rw[Sl (show 3<=n by omega)];rfl);rw[if_pos this];exact⟨rfl,rfl,q.symm⟩)
   clear m F E r C t z o l A x y q u P Q;go_enter func91,ntmps91;go_wp2_with (fail);apply G.m;rintro e g⟨rfl,rfl⟩;go_wp2_with (fail);apply K.m;rintro e g⟨rfl,rfl⟩;go_wp2_with (fail);apply H.m;rintro e g⟨rfl,rfl⟩;go_wp2_with (fail);apply W.m;rintro e g⟨rfl,rfl⟩;go_wp2;go_loop [10] (λi=>∃d:Nat,d<=a.size/\i=.int .i64 d) (λi=>a.size-(intOf i).toNat)
   case atStart=>exact⟨0,Qt _,rfl⟩
   case round=>
    obtain⟨d,aj,rfl⟩:=hrel;by_cases ab:d<a.size
    ·have R:(d:Int)<(a.size:Int):=Z;go_wp2;exact⟨⟨d+1,Z,by go_num⟩,by simp[intOf];omega⟩
    have R:¬(d:Int)<(a.size:Int):=Z;go_wp2;go_ret3
    exact⟨126,n,a,rfl,j,rfl⟩
  have j:U (Ns s 0 0 ⟨#[]⟩):=V ⟨Z,by
   rw[A (λf=>p (.inl f)) (λf=>p (.inr f))];rfl⟩
  have ao:((c.toNat:Int) != 96)=true:=by rw[bne_iff_ne];intro f;exact p (.inl (Qk.1 (by show c.toNat=96;omega)))
  have ap:((c.toNat:Int) != 126)=true:=by rw[bne_iff_ne];intro f;exact p (.inr (Qk.1 (by show c.toNat=126;omega)))
  clear m F E r C t z o l A x y q u P p;go_enter func91,ntmps91;go_wp2_with fail
  apply G.m;rintro e g⟨rfl,rfl⟩;go_wp2_with fail
  apply K.m;rintro e g⟨rfl,rfl⟩;go_wp2_with fail
  apply H.m;rintro e g⟨rfl,rfl⟩;go_wp2;go_ret3
  exact⟨0,0,⟨#[]⟩,rfl,j,rfl⟩
