import Derived.Test.YtlojgpkajkedeaaGreatDoorOW3
set_option maxHeartbeats 0
set_option maxRecDepth 100000
namespace Go.Proofs.YtlojgpkajkedeaaGreatDoor
open Go.RowKit Go.Proofs.Tryz
theorem MP (s:Sb)(k:Nat):s.extract k s.size=S.B (s.data.toList.drop k):=by
 rw[<-S.El (s.extract k s.size),S.Iw]
theorem zcd (l:List UInt8):(decide (S.Ap l<=3)&&!S.Ar l) = !(S.Aq l).isEmpty:=by
 have d:=S.Jz l;unfold S.Aq S.Ar;by_cases a:4<=S.Ap l
 ·rw[if_pos a,Si Z];rfl
 rw[if_neg a,Sl Z];simp only[Bool.true_and];congr 1
 rw[SC,Sd,List.isEmpty_iff,List.drop_eq_nil_iff];omega
theorem Nq (s:Sb)(p:Nat)(c:UInt8)(w:Sw)(A:s.size<=1000000)(z:p<=1000000):Calls prog 126 #[s,p,.int .u8 (c.toNat:Int)] w λe v=>e=.returned (.int .i64 (S.cnt c (s.data.toList.drop p):Nat))/\v=w:=by
 go_enter func126,ntmps126;go_wp2;go_loop [7] (λi=>∃a:Nat,a<=s.size-p/\i=.int .i64 a/\∀d,d<a->(s.data.toList.drop p)[d]?=some c) (λi=>s.size-p-(intOf i).toNat)
 case atStart=>exact⟨0,Qt _,rfl,by intro d t;omega⟩
 case round=>
  obtain⟨a,y,rfl,f⟩:=hrel;obtain⟨n,k⟩:=Qyy (p+a);have C:IntKind.i64.wrap ((p:Int)+(a:Int))=(n:Int):=by rw[Sqe];omega
  have g:(s.data.toList.drop p)[a]?=s.data.toList[n]?:=by rw[Qn,k]
  by_cases u:n<s.size
  ·have j:=S.Bz s n u;have q:(n:Int)<(s.size:Int):=Z;by_cases h:s[n]=c
   ·have o:((s[n].toNat:Int) == (c.toNat:Int))=true:=(by simp[h]);have r:U (∀d,d<a+1->(s.data.toList.drop p)[d]?=some c):=by
     intro d t;by_cases e:d=a
     ·subst e;rw[g,j,h]
     exact f d Z
    have m:U (a+1<=s.size-p):=V Z;clear j f g k;go_wp2;exact⟨⟨a+1,m.q,by go_num,r.q⟩,by have:=m.q;simp[intOf];omega⟩
   have o:((s[n].toNat:Int) == (c.toNat:Int))=false:=by
    rw[Qe];intro x;exact h (Qk.1 Z)
   have l:U (S.cnt c (s.data.toList.drop p)=a):=S.Wt c _ a f (by rw[g,j];simpa using h);clear j f g k;go_wp2;go_ret;exact⟨Bu (by rw[l.q]),rfl⟩
  have l:U (S.cnt c (s.data.toList.drop p)=a):=S.Wt c _ a f (by rw[g,Qr (by rw[S.lda];omega)];simp);have q:¬(n:Int)<(s.size:Int):=Z;clear f g k;go_wp2;go_ret;exact⟨Bu (by rw[l.q]),rfl⟩
theorem Mw (s:Sb)(w:Sw)(f:s.size<=1000000):Calls prog 88 #[s] w λe a=>e=.returned (.int .i64 (S.Ap s:Nat))/\a=w:=by
 have d:=V (Nq s 0 32 w f Z);go_enter func88,ntmps88;go_wp2_with fail
 apply d.m;rintro e a⟨rfl,rfl⟩;go_wp2;go_ret;exact⟨rfl,rfl⟩
theorem Ur (s:Sb)(w:Sw)(h:s.size<=1000000):Calls prog 128 #[s] w λe g=>e=.returned (.string (S.B (s.data.toList.drop (S.Ap s))))/\g=w:=by
 have a:=V (Mw s w h);have d:=S.Jz s;rw[S.lda]at d;rw[<-MP];obtain⟨n,f⟩:=Qyy (S.Ap s);rw[f]at a d ⊢;have j:(0:Int)<=(n:Int):=Z;have k:(n:Int)<=(s.size:Int):=Z;clear f;go_enter func128,ntmps128;go_wp2_with fail
 apply a.m;rintro e g⟨rfl,rfl⟩;go_wp2;go_ret;exact⟨rfl,rfl⟩
theorem Lb (s:Sb)(w:Sw)(g:s.size<=1000000):Calls prog 67 #[s] w λe a=>e=.returned (.bool (S.Ar s))/\a=w:=by
 have d:=V (Mw s w g);have f:U ((((S.Ap s:Nat):Int) == (s.size:Int))=S.Ar s):=by
  apply V;unfold S.Ar;rw[S.lda,SC,Sqb,Sd];omega
 go_enter func67,ntmps67;go_wp2_with fail
 apply d.m;rintro e a⟨rfl,rfl⟩;go_wp2;go_ret;exact⟨Dy f.q,rfl⟩
theorem Z8 (s:Sb)(n:Nat)(w:Sw)(k:n<=1000000):Calls prog 132 #[s,n] w λe g=>e=.returned (.string (S.B (s.data.toList.drop n)))/\g=w:=by
 by_cases f:s.size<=n
 ·have a:(s.size:Int)<=(n:Int):=Z;have d:U (S.B (s.data.toList.drop n)=⟨#[]⟩):=V (by rw[Qw (by rw[S.lda];exact f)];rfl);go_enter func132,ntmps132;go_wp2;go_ret;exact⟨by first|rfl|(rw[d.q];rfl),rfl⟩
 have a:¬(s.size:Int)<=(n:Int):=Z;have h:(0:Int)<=(n:Int):=Z;have j:(n:Int)<=(s.size:Int):=Z;rw[<-MP];go_enter func132,ntmps132;go_wp2;go_ret;exact⟨rfl,rfl⟩
theorem ER (s:Sb)(w:Sw)(l:s.size<=1000000):Calls prog 127 #[s] w λe a=>e=.returned (.bool (!(S.Aq s).isEmpty))/\a=w:=by
 have f:=V (Mw s w l);have h:=V (Lb s w l);rw[<-zcd];obtain⟨n,k⟩:=Qyy (S.Ap s);obtain⟨b,j⟩:=Qyy (S.Ar s);rw[k]at f ⊢;rw[j]at h ⊢;clear k j;by_cases g:n<=3
 ·have m:(n:Int)<=3:=Z;have d:U ((decide (n<=3)&&!b) = !b):=V (by rw[Sl g];rfl);go_enter func127,ntmps127;go_wp2_with fail
  apply f.m;rintro e a⟨rfl,rfl⟩;go_wp2_with fail
  apply h.m;rintro e a⟨rfl,rfl⟩;go_wp2;go_ret;exact⟨by first|rfl|(rw[d.q];rfl),rfl⟩
 have m:¬(n:Int)<=3:=Z;have d:U ((decide (n<=3)&&!b)=false):=V (by rw[Si g];rfl);go_enter func127,ntmps127;go_wp2_with fail
 apply f.m;rintro e a⟨rfl,rfl⟩;go_wp2;go_ret;exact⟨by first|rfl|(rw[d.q];rfl),rfl⟩
theorem X3 (s:Sb)(n:Nat):s.extract 0 n=S.B (s.data.toList.take n):=by
 rw[<-S.El (s.extract 0 n),Lib.extract_data];simp
namespace S
theorem Un (a c:UInt8)(r:List UInt8):Lib.trimRightB (a::r) c=if Lib.trimRightB r c=[]then (if a=c then []else [a])else a::Lib.trimRightB r c:=by
 unfold Lib.trimRightB;rw[List.reverse_cons,List.dropWhile_append];by_cases d:(List.dropWhile (λa=>a == c) r.reverse).isEmpty=true
 ·rw[if_pos d];have f:(List.dropWhile (λa=>a == c) r.reverse).reverse=[]:=by simpa using d
  rw[if_pos f];by_cases g:a=c<;>simp[g]
 rw[if_neg d];have f:¬(List.dropWhile (λa=>a == c) r.reverse).reverse=[]:=by simpa using d
 rw[if_neg f];simp
theorem Xr (l:List UInt8)(c:UInt8)(n:Nat)(m:n<=l.length)(g:∀a,n<=a->a<l.length->l[a]?=some c)(j:n=0\/l[n-1]?≠some c):Lib.trimRightB l c=l.take n:=by
 induction l generalizing n with
 |nil=>simp[Lib.trimRightB]
 |cons r q o=>
  rw[Un];cases n with
  |zero=>
   have f:=o 0 (Qt _) (λa _ k=>by have:=g (a+1) Z (by simpa using k);simpa using this) (.inl rfl);have h:=g 0 Z Y;simp at h;rw[f];simp[h]
  |succ n=>
   have f:=o n (by simpa using m) (λa k p=>by have:=g (a+1) Z (by simpa using p);simpa using this) (by
    cases n with
    |zero=>exact .inl rfl
    |succ n=>exact .inr (by
      rcases j with d|d
      ·omega
      simpa using d))
   rw[f];cases n with
   |zero=>
    rcases j with d|d
    ·omega
    simp at d;simp[d]
   |succ n=>
    have:q.take (n+1)≠[]:=by
     intro e;have:=congrArg List.length e;rw[Ql,Qi]at this;simp only[Qd]at m;omega
    rw[if_neg this];rfl
theorem P7 (l:List UInt8)(c:UInt8):Lib.trimRightB (l.drop (cnt c l)) c=Lib.trimB l c:=by
 show _=Lib.trimLeftB (Lib.trimRightB l c) c;induction l with
 |nil=>rfl
 |cons g f h=>
  rw[Un];by_cases d:g=c
  ·subst d;simp only[cnt,if_true,List.drop_succ_cons];rw[h];by_cases a:Lib.trimRightB f g=[]
   ·rw[if_pos a,a]
   rw[if_neg a];simp[Lib.trimLeftB]
  simp only[cnt,if_neg d,List.drop_zero];rw[Un,if_neg d];by_cases a:Lib.trimRightB f c=[]
  ·rw[if_pos a];simp[Lib.trimLeftB,d]
  rw[if_neg a];simp[Lib.trimLeftB,d]
end S
theorem Wi (s:Sb)(w:Sw)(C:s.size<=1000000):Calls prog 130 #[s] w λe r=>e=.returned (.string (S.B (Lib.trimRightB s 32)))/\r=w:=by
 go_enter func130,ntmps130;go_wp2;go_loop [3] (λi=>∃f:Nat,f<=s.size/\i=.int .i64 f/\∀d,f<=d->d<s.data.toList.length->s.data.toList[d]?=some 32) (λi=>(intOf i).toNat)
 case atStart=>exact⟨s.size,Qc _,rfl,by intro d p l;rw[S.lda]at l;omega⟩
 case round=>
  obtain⟨f,z,rfl,g⟩:=hrel;have v:(0:Int)<=(f:Int):=Z;have x:(f:Int)<=(s.size:Int):=Z;by_cases u:0<f
  ·obtain⟨a,rfl⟩:∃a,f=a+1:=⟨f-1,Z⟩;have j:=S.Bz s a Z;have D:IntKind.i64.wrap (((a+1:Nat):Int)-1)=(a:Int):=by rw[Sqe];omega
   have y:(a:Int)<(s.size:Int):=Z;have A:a<s.size:=Z;by_cases h:s[a]=32
   ·have m:((s[a].toNat:Int) == 32)=true:=(by simp[h]);have o:U (∀d,a<=d->d<s.data.toList.length->s.data.toList[d]?=some 32):=by
     intro d p l;by_cases e:d=a
     ·subst e;rw[j,h]
     exact g d Z l
    clear j g;go_wp2;exact⟨⟨a,Z,by go_num,o.q⟩,by simp[intOf]⟩
   have m:((s[a].toNat:Int) == 32)=false:=by
    rw[Qe];intro t;exact h (Qk.1 (by show s[a].toNat=32;omega))
   have k:U (s.extract 0 (a+1)=S.B (Lib.trimRightB s 32)):=V (by
    rw[X3,S.Xr s 32 (a+1) (by rw[S.lda];omega) g (.inr (by rw[SF,j];simpa using h))])
   clear j g;go_wp2;go_ret;exact⟨by rw[<-k.q];rfl,rfl⟩
  have q:f=0:=Z;subst q;have k:U (ByteArray.empty=S.B (Lib.trimRightB s 32)):=V (by
   rw[S.Xr s 32 0 (Qt _) g (.inl rfl)];rfl)
  clear g;go_wp2;go_ret;exact⟨by rw[<-k.q];rfl,rfl⟩
theorem GK (s:Sb)(w:Sw)(h:s.size<=1000000):Calls prog 129 #[s] w λe d=>e=.returned (.string (S.B (Lib.trimB s 32)))/\d=w:=by
 have g:=V (Ur s w h);have a:=Wi (S.B (s.data.toList.drop (S.Ap s))) w (by rw[S.Bc,Qf,S.lda];omega);rw[S.Bq,show S.Ap s=S.cnt 32 s.data.toList from rfl,S.P7]at a;have f:=V a;clear a;go_enter func129,ntmps129;go_wp2_with fail
 apply g.m;rintro e d⟨rfl,rfl⟩;go_wp2_with fail
 apply f.m;rintro e d⟨rfl,rfl⟩;go_wp2;go_ret;exact⟨rfl,rfl⟩
