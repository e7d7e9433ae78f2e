import Derived.Test.YtlojgpkajkedeaaGreatDoorOD1
import Derived.Lib.IndexLaws
import Derived.Lib.Replace
import Derived.Lib.SplitLaws
set_option maxHeartbeats 0
set_option maxRecDepth 100000
namespace Go.Proofs.YtlojgpkajkedeaaGreatDoor
open Go.RowKit Go.Proofs.Tryz
theorem Kr (s:Sb)(i a:Nat):(s.extract i a).data.toList=(s.data.toList.drop i).take (a-i):=by
 rw[Lib.extract_data]
theorem Gw (s:Sb)(i:Nat):(s.extract i s.size).data.toList=s.data.toList.drop i:=S.Iw s i
theorem JZ (s:Sb)(w:Sw)(z:s.size<=1000000):Calls prog 237 #[s] w λe d=>∃l:Sb,e=.returned (.tuple #[l,.bool (S.Gg s)])/\U (S.Gg s=true->l.data.toList=S.addrOf s)/\Below w w d:=by
 have j:=V ((Tryz.strings_HasPrefix s ⟨#[40]⟩ w).mono (λe d (h:e=_/\d=w)=>(⟨h.1,h.2.symm⟩:e=_/\w=d)));cases f:Lib.hasPrefix s.data.toList [40]
 ·have u:U (S.Gg s=false):=V (by unfold S.Gg;rw[f];rfl);rw[show (⟨#[40]⟩:Sb).data.toList=[40] from rfl,f]at j;rw[u.q];clear f;go_enter func237,ntmps237;go_wp2_with fail
  apply j.m;rintro e d⟨rfl,rfl⟩;go_wp2;go_ret2;exact⟨⟨#[]⟩,rfl,V (λh=>by cases h),Sr⟩
 have y:1<=s.size:=by
  rw[<-S.lda];cases t:s.data.toList with
  |nil=>rw[t]at f;simp[Lib.hasPrefix]at f
  |cons b l=>simp
 rw[show (⟨#[40]⟩:Sb).data.toList=[40] from rfl,f]at j;obtain⟨a,g⟩:=Qyy (S.E8 [40,41,60,62] (s.data.toList.drop 1));have v:1+a<=s.size:=by rw[<-g];have:=S.HY [40,41,60,62] (s.data.toList.drop 1);rw[Qf,S.lda]at this;omega
 have p:U (Calls prog 233 #[.string (s.extract 1 s.size),.string ⟨#[40,41,60,62]⟩] w λe d=>e=.returned a/\w=d):=V (by
  have:=TV (s.extract 1 s.size) ⟨#[40,41,60,62]⟩ w (by rw[Sqc];unfold maxLen;omega);rw[Gw,show (⟨#[40,41,60,62]⟩:Sb).data.toList=[40,41,60,62] from rfl,g]at this;exact this)
 have q:U (∀k,Calls prog 161 #[.string (s.extract (1+a) s.size),.string ⟨#[41]⟩] k λe d=>e=.returned (.bool (S.Gg s))/\k=d):=V (λk=>by
  have:=Tryz.strings_HasPrefix (s.extract (1+a) s.size) ⟨#[41]⟩ k;rw[Gw,show (⟨#[41]⟩:Sb).data.toList=[41] from rfl]at this;refine this.mono (λe d ⟨m,o⟩=>⟨?_,o.symm⟩);rw[m];unfold S.Gg;rw[f,g,Bool.true_and])
 have r:U ((s.extract 1 (1+a)).data.toList=S.addrOf s):=V (by
  rw[Kr];unfold S.addrOf;rw[g,Nat.add_sub_cancel_left])
 have x:(1:Int)+(a:Int)<=(s.size:Int):=Z;have A:((1:Int)+(a:Int)).toNat=1+a:=Z;have C:(0:Int)<=1+(a:Int):=Z;have D:(1:Int)<=1+(a:Int):=Z;generalize S.Gg s=E at *;clear g f;go_enter func237,ntmps237;go_wp2_with fail
 apply j.m;rintro e d⟨rfl,rfl⟩;go_wp2_with fail
 apply p.m;rintro e d⟨rfl,rfl⟩;go_wp2_with fail
 go_region_held3 (λ_=>True) (trivial) ((go_at_call 161;refine(q.q _).mono ?_;rintro e d⟨rfl,rfl⟩))
 go_wp2;go_ret2;exact⟨s.extract 1 (1+a),rfl,V (λ_=>r.q),Sr.drew⟩
theorem MF (s:Sb)(w:Sw)(al:s.size<=1000000)(af:0<s.size):Calls prog 200 #[s] w λe d=>∃Q:Sb,e=.returned (.tuple #[Q,.bool (S.Eb s)])/\U (S.Eb s=true->Q.data.toList=S.Gv s)/\Below w w d:=by
 have H:=V (λ(b:UInt8) h=>TU b h);obtain⟨lt,v⟩:=Qyy (S.letters (s.data.toList.drop 1));have ak:1+lt<=s.size:=by rw[<-v];have:=S.TL (s.data.toList.drop 1);rw[Qf,S.lda]at this;omega
 have K:U (S.colon s=1+lt):=V (by unfold S.colon;rw[v]);have P:=V v;have p:U (∀h,Calls prog 161 #[.string (s.extract (1+lt) s.size),.string ⟨#[58]⟩] h λe d=>e=.returned (.bool (Lib.hasPrefix (s.data.toList.drop (1+lt)) [58]))/\h=d):=V (λh=>by
  have:=Tryz.strings_HasPrefix (s.extract (1+lt) s.size) ⟨#[58]⟩ h;rw[Gw]at this;exact this.mono (λe d ⟨A,C⟩=>⟨A,C.symm⟩))
 obtain⟨x,F⟩:=Qyy (Lib.hasPrefix (s.data.toList.drop (1+lt)) [58]);rw[F]at p;have m:U (S.Ud s=(decide (lt<2)||decide (8<lt)||!x)):=V (by unfold S.Ud;rw[v,K.q,F]);obtain⟨g,z⟩:=Qyy (S.E8 [60,62] (s.data.toList.drop (1+lt)));have aj:1+lt+g<=s.size:=by rw[<-z];have:=S.HY [60,62] (s.data.toList.drop (1+lt));rw[Qf,S.lda]at this;omega
 have L:U (S.Hf s=1+lt+g):=V (by unfold S.Hf;rw[K.q,z]);have G:U (∀h,Calls prog 233 #[.string (s.extract (1+lt) s.size),.string ⟨#[60,62]⟩] h λe d=>e=.returned g/\h=d):=V (λh=>by
  have:=TV (s.extract (1+lt) s.size) ⟨#[60,62]⟩ h (by rw[Sqc];unfold maxLen;omega);rw[Gw,show (⟨#[60,62]⟩:Sb).data.toList=[60,62] from rfl,z]at this;exact this)
 have y:U (∀h,Calls prog 161 #[.string (s.extract (1+lt+g) s.size),.string ⟨#[62]⟩] h λe d=>e=.returned (.bool (Lib.hasPrefix (s.data.toList.drop (S.Hf s)) [62]))/\h=d):=V (λh=>by
  have:=Tryz.strings_HasPrefix (s.extract (1+lt+g) s.size) ⟨#[62]⟩ h;rw[Gw]at this;rw[L.q];exact this.mono (λe d ⟨A,C⟩=>⟨A,C.symm⟩))
 have M:U ((s.extract 1 (1+lt+g)).data.toList=S.Gv s):=V (by
  rw[Kr];unfold S.Gv;rw[L.q])
 clear v F z;go_enter func200,ntmps200;go_wp2;go_loop [4] (λi=>∃a:Nat,1+a<=s.size/\i=.int .i64 ((1:Int)+(a:Int))/\U (∀k,k<a->((s.data.toList.drop 1)[k]?.map S.letter)=some true)) (λi=>s.size-(intOf i).toNat)
 case atStart=>exact⟨0,Z,rfl,V (λk aa=>Z)⟩
 case round=>
  obtain⟨a,ag,rfl,q⟩:=hrel;have am:((1:Int)+(a:Int)).toNat=1+a:=Z;by_cases T:1+a<s.size
  ·have ah:(1:Int)+(a:Int)<(s.size:Int):=Z;have N:=S.Bz s (1+a) T;have E:U ((s.data.toList.drop 1)[a]?=some s[1+a]):=V (by rw[Qn];exact N);clear N;cases o:S.letter s[1+a]
   ·have l:=V (λh=>H.q s[1+a] h);rw[o]at l;obtain rfl:a=lt:=by
     rw[<-P.q];exact(S.BO _ a q.q (by rw[E.q,Sq,o];simp)).symm
    clear o q E;by_cases r:a<2
    ·have f:U (S.Eb s=false):=V (by unfold S.Eb;rw[m.q,Sl r];rfl);have t:(a:Int)<2:=Z;go_wp2_with (go_at_call 232;refine(l.q _).mono ?_;rintro e d⟨rfl,rfl⟩)
     go_ret2;exact⟨⟨#[]⟩,by rw[f.q];rfl,V (λj=>by rw[f.q]at j;cases j),Sr⟩
    by_cases u:8<a
    ·have f:U (S.Eb s=false):=V (by unfold S.Eb;rw[m.q,Sl u,Bool.or_true];rfl);have t:¬(a:Int)<2:=Z;have D:(8:Int)<(a:Int):=Z;go_wp2_with (go_at_call 232;refine(l.q _).mono ?_;rintro e d⟨rfl,rfl⟩)
     go_ret2;exact⟨⟨#[]⟩,by rw[f.q];rfl,V (λj=>by rw[f.q]at j;cases j),Sr⟩
    have t:¬(a:Int)<2:=Z;have D:¬(8:Int)<(a:Int):=Z;cases x
    ·have f:U (S.Eb s=false):=V (by unfold S.Eb;rw[m.q];simp);go_wp2_with (first|(go_at_call 232;refine(l.q _).mono ?_;rintro e d⟨rfl,rfl⟩)|(go_at_call 161;refine(p.q _).mono ?_;rintro e d⟨rfl,rfl⟩))
     go_ret2;exact⟨⟨#[]⟩,by rw[f.q];rfl,V (λj=>by rw[f.q]at j;cases j),Sr⟩
    have f:U (S.Eb s=Lib.hasPrefix (s.data.toList.drop (S.Hf s)) [62]):=V (by unfold S.Eb;rw[m.q,Si r,Si u];simp);rw[<-f.q]at y;have ab:(0:Int)<=1+(a:Int)+(g:Int):=Z;have ac:(1:Int)<=1+(a:Int)+(g:Int):=Z;have ae:(1:Int)+(a:Int)+(g:Int)<=(s.size:Int):=Z;have W:((1:Int)+(a:Int)+(g:Int)).toNat=1+a+g:=Z;go_wp2_with (first|(go_at_call 232;refine(l.q _).mono ?_;rintro e d⟨rfl,rfl⟩)|(go_at_call 161;refine(p.q _).mono ?_;rintro e d⟨rfl,rfl⟩))
    refine(G.q _).mono ?_;rintro e d⟨rfl,rfl⟩;go_wp2_with (fail);go_region_held3 (λ_=>True) (trivial) ((go_at_call 161;refine(y.q _).mono ?_;rintro e d⟨rfl,rfl⟩))
    go_wp2;go_ret2;exact⟨s.extract 1 (1+a+g),rfl,V (λ_=>M.q),Sr.drew⟩
   have l:=V (λh=>H.q s[1+a] h);rw[o]at l;have R:U (∀k,k<a+1->((s.data.toList.drop 1)[k]?.map S.letter)=some true):=V (λk aa=>by
    by_cases e:k=a
    ·subst e;rw[E.q,Sq,o]
    exact q.q k Z)
   clear o;go_wp2_with (go_at_call 232;refine(l.q _).mono ?_;rintro e d⟨rfl,rfl⟩)
   go_round
   case rel=>exact⟨a+1,Z,by go_num,R⟩
   case measure=>exact Sj
  obtain rfl:a=lt:=by
   rw[<-P.q];exact(S.BO _ a q.q (by rw[Qr (by rw[Qf,S.lda];omega)];simp)).symm
  have ai:¬(1:Int)+(a:Int)<(s.size:Int):=Z;clear q;by_cases r:a<2
  ·have f:U (S.Eb s=false):=V (by unfold S.Eb;rw[m.q,Sl r];rfl);have t:(a:Int)<2:=Z;go_wp2;go_ret2;exact⟨⟨#[]⟩,by rw[f.q];rfl,V (λj=>by rw[f.q]at j;cases j),Sr⟩
  by_cases u:8<a
  ·have f:U (S.Eb s=false):=V (by unfold S.Eb;rw[m.q,Sl u,Bool.or_true];rfl);have t:¬(a:Int)<2:=Z;have D:(8:Int)<(a:Int):=Z;go_wp2;go_ret2;exact⟨⟨#[]⟩,by rw[f.q];rfl,V (λj=>by rw[f.q]at j;cases j),Sr⟩
  have t:¬(a:Int)<2:=Z;have D:¬(8:Int)<(a:Int):=Z;cases x
  ·have f:U (S.Eb s=false):=V (by unfold S.Eb;rw[m.q];simp);go_wp2_with (go_at_call 161;refine(p.q _).mono ?_;rintro e d⟨rfl,rfl⟩)
   go_ret2;exact⟨⟨#[]⟩,by rw[f.q];rfl,V (λj=>by rw[f.q]at j;cases j),Sr⟩
  have f:U (S.Eb s=Lib.hasPrefix (s.data.toList.drop (S.Hf s)) [62]):=V (by unfold S.Eb;rw[m.q,Si r,Si u];simp);rw[<-f.q]at y;have ab:(0:Int)<=1+(a:Int)+(g:Int):=Z;have ac:(1:Int)<=1+(a:Int)+(g:Int):=Z;have ae:(1:Int)+(a:Int)+(g:Int)<=(s.size:Int):=Z;have W:((1:Int)+(a:Int)+(g:Int)).toNat=1+a+g:=Z;go_wp2_with (go_at_call 161;refine(p.q _).mono ?_;rintro e d⟨rfl,rfl⟩)
  refine(G.q _).mono ?_;rintro e d⟨rfl,rfl⟩;go_wp2_with fail
  go_region_held3 (λ_=>True) (trivial) ((go_at_call 161;refine(y.q _).mono ?_;rintro e d⟨rfl,rfl⟩))
  go_wp2;go_ret2;exact⟨s.extract 1 (1+a+g),rfl,V (λ_=>M.q),Sr.drew⟩
namespace S
theorem zgk (size:Nat)(f:Nat)(l:List UInt8)(k d:Nat)(a:Ga size f l k=some d):k<=d/\d+size<=k+l.length:=by
 induction f generalizing l k with
 |zero=>simp[Ga]at a
 |succ f g=>
  cases l with
  |nil=>simp[Ga]at a
  |cons b h=>
   simp only[Ga]at a;split at a
   ·split at a
    ·rename_i j;cases a;have:=Gf 96 (b::h);omega
    have:=g _ _ a;have m:=Gf 96 (b::h);rw[Qf]at this;omega
   have:=g _ _ a;simp only[Qd];omega
theorem Y5 (l:List UInt8)(size a:Nat)(f:size<=l.length)(d:Ji l size=some a):size<=a/\a+size<=l.length:=by
 have:=zgk size _ _ _ _ d;rw[Qf]at this;omega
def Ip (l:List UInt8):List UInt8:=
 let a:=Lib.replaceAll l [10] [32]
 if (Lib.hasPrefix a [32]&&Lib.hasSuffix a [32])=true/\Lib.trimB a 32≠[]then (a.drop 1).take (a.length-2)else a
theorem TY (k:Nat)(l:List UInt8):(Lib.replaceK [10] [32] k l).length=l.length:=by
 induction k generalizing l with
 |zero=>rfl
 |succ k g=>
  unfold Lib.replaceK;split
  ·rfl
  rename_i a;have h:=Lib.indexByte_ge l 10;rw[Lib.index_one]at a ⊢;have m:¬Lib.indexByte l 10 = -1:=by simpa using a
  obtain⟨d,f⟩:∃d:Nat,Lib.indexByte l 10=d:=⟨(Lib.indexByte l 10).toNat,Z⟩;have j:=(Qb.1 (Lib.indexByte_some f).1).1;simp only[Qa,Ql,g,Qf,Qd,Qi];omega
theorem VU (l:List UInt8):(Lib.replaceAll l [10] [32]).length=l.length:=by
 unfold Lib.replaceAll Lib.replace;rw[if_neg J];exact TY _ _
end S
theorem OZ (s:Sb)(size:Nat)(w:Sw)(R:s.size<=1000000)(K:size<=s.size)(ab:1<=size)(v:Option Nat)(y:S.Ji s size=v):Calls prog 198 #[s,size] w λe m=>e=.returned (.tuple #[.string ((v.map (λa=>s.extract size a)).getD ⟨#[]⟩),v.isSome])/\w=m:=by
 have E:=V y;clear y;go_enter func198,ntmps198;go_wp2;go_loop [6,7] (λi _=>∃a k:Nat,size<=a/\a<=s.size/\i=.int .i64 a/\s.size-a<k/\U (S.Ga size k (s.data.toList.drop a) a=v)) (λi _=>s.size-(intOf i).toNat)
 case atStart=>exact⟨size,s.size+1,Qc _,K,rfl,Z,V (by have:=E.q;unfold S.Ji at this;rw[S.lda]at this;exact this)⟩
 case round=>
  obtain⟨a,k,T,Q,rfl,L,j⟩:=hrel;obtain⟨g,rfl⟩:∃g,k=g+1:=⟨k-1,Z⟩;by_cases D:a<s.size
  ·have x:=S.Bz s a D;have h:U (s.data.toList.drop a=s[a]::s.data.toList.drop (a+1)):=V (by
    obtain⟨C,H⟩:=Qb.1 x;rw[Qm C,H])
   clear x;by_cases f:s[a]=96
   ·have aa:s[a].toNat=96:=(by rw[f];rfl);have z:(s.extract a s.size).data.toList=s[a]::s.data.toList.drop (a+1):=(by rw[Gw];exact h.q);have A:(s.extract a s.size).size=s.size-a:=(by rw[Sqc];omega);have q:0<(s.extract a s.size).size:=Z;have u:(s.extract a s.size)[0]=96:=by
     have:=S.Bz (s.extract a s.size) 0 q;rw[z]at this;simp at this;rw[<-this];exact f
    obtain⟨d,l⟩:=Qyy (S.cnt 96 (s.data.toList.drop a));have t:U (Calls prog 153 #[.string (s.extract a s.size)] w λe m=>e=.returned d/\w=m):=V (by
     have:=Xi (s.extract a s.size) w (by rw[A];unfold maxLen;omega) q (by rw[u];decide);have e:S.same (s.extract a s.size).data.toList=d:=(by rw[<-l,Gw,h.q,f];rfl);rw[e]at this;exact this)
    have P:a+d<=s.size:=(by rw[<-l];have:=S.Gf 96 (s.data.toList.drop a);rw[Qf,S.lda]at this;omega);have M:1<=d:=(by rw[<-l,h.q,f];simp[S.cnt]);have o:U ((if d=size then some a else S.Ga size g (s.data.toList.drop (a+d)) (a+d))=v):=V (by
     have:=j.q;rw[h.q]at this;simp only[S.Ga]at this;rw[if_pos f,<-h.q,l,Qbb]at this;exact this)
    clear f z A q u l j;by_cases p:d=size
    ·subst p;have F:U (v=some a):=V (by rw[<-o.q,if_pos rfl]);clear o;go_wp2_with (go_at_call 153;apply t.m;rintro e m⟨rfl,rfl⟩)
     go_ret2;exact⟨by rw[F.q];rfl,rfl⟩
    have N:(((d:Nat):Int) == ((size:Nat):Int))=false:=(by rw[Qe];omega);have r:U (S.Ga size g (s.data.toList.drop (a+d)) (a+d)=v):=V (by rw[<-o.q,if_neg p]);clear o p;go_wp2_with (go_at_call 153;apply t.m;rintro e m⟨rfl,rfl⟩)
    go_round
    case rel=>exact⟨a+d,g,Z,Z,by go_num,Z,r⟩
    case measure=>exact Sj
   have W:(((s[a].toNat:Nat):Int) == 96)=false:=by
    rw[Qe];intro e;exact f (Qk.1 (by show s[a].toNat=96;omega))
   have r:U (S.Ga size g (s.data.toList.drop (a+1)) (a+1)=v):=V (by
    have:=j.q;rw[h.q]at this;simp only[S.Ga]at this;rw[if_neg f]at this;exact this)
   clear f j;go_wp2;go_round
   case rel=>exact⟨a+1,g,Z,Z,by go_num,Z,r⟩
   case measure=>exact Sj
  have G:U (v=none):=V (by
   have:=j.q;rw[Qw (by rw[S.lda];omega)]at this;rw[<-this];rfl)
  clear j;go_wp2;go_ret2;exact⟨by rw[G.q];rfl,rfl⟩
theorem TP {l:List UInt8}(f:Lib.trimB l 32≠[])(a:Lib.hasPrefix l [32]=true):2<=l.length:=by
 cases l with
 |nil=>simp[Lib.hasPrefix]at a
 |cons b d=>cases d with
  |nil=>
   exfalso;apply f
   have:b=32:=by simp[Lib.hasPrefix]at a;exact a.symm
   subst this;decide
  |cons c d=>simp
theorem zh5 (s:Sb)(w:Sw)(ac:s.size<=1000000)(P:Env w):Calls prog 199 #[s] w λe d=>∃K:Sb,e=.returned K/\U (K.data.toList=S.Ip s)/\Below w w d:=by
 obtain⟨_,⟨R,H⟩,_⟩:=P;obtain⟨a,A⟩:∃a:Sb,a=⟨(Lib.replaceAll s.data.toList [10] [32]).toArray⟩:=⟨_,rfl⟩;have C:a.data.toList=Lib.replaceAll s.data.toList [10] [32]:=by rw[A]
 have M:a.size=s.size:=by rw[<-S.lda,C,S.VU,S.lda]
 have N:Lib.countB s ⟨#[10]⟩<=s.size:=by
  show Lib.count s.data.toList [10]<=_;rw[Lib.count_one,<-S.lda];exact List.count_le_length
 have v:U (Calls prog 231 #[s,.string ⟨#[10]⟩,.string ⟨#[32]⟩] w λe d=>e=.returned a/\Below w w d):=V (by
  have:=Tryz.strings_ReplaceAll s ⟨#[10]⟩ ⟨#[32]⟩ R w Z H J (by
   have e:(⟨#[32]⟩:Sb).size=1:=rfl;rw[e];omega)
  rw[A];exact this)
 have m:=V (λf=>(Tryz.strings_HasPrefix a ⟨#[32]⟩ f).mono (λe d (k:e=_/\d=f)=>(⟨k.1,k.2.symm⟩:e=_/\f=d)));have r:=V (λf=>(Tryz.strings_HasSuffix a ⟨#[32]⟩ f Z).mono (λe d (k:e=_/\d=f)=>(⟨k.1,k.2.symm⟩:e=_/\f=d)));have x:U (∀f,Calls prog 172 #[a,.string ⟨#[32]⟩] f λe d=>e=.returned (.string ⟨(Lib.trimB a 32).toArray⟩)/\Below f.heap.size f d):=V (λf=>(Tryz.strings_Trim_one a 32 J f Z).mono (λe d ⟨z,L⟩=>⟨z,by rcases L with rfl|rfl;exact Sr;exact Sr.drew⟩))
 have y:U (S.Ip s=if (Lib.hasPrefix a.data.toList [32]&&Lib.hasSuffix a.data.toList [32])=true/\Lib.trimB a 32≠[]then (a.data.toList.drop 1).take (a.data.toList.length-2)else a.data.toList):=V (by unfold S.Ip;rw[C])
 rw[show (⟨#[32]⟩:Sb).data.toList=[32] from rfl]at m r;clear A C N H;have Q:=V (λk z=>TP (l:=a.data.toList) k z);cases j:Lib.hasPrefix a.data.toList [32]
 ·rw[j]at m;have o:U (S.Ip s=a.data.toList):=V (by rw[y.q,j];simp);clear j;go_enter func199,ntmps199;go_wp2_with fail
  apply v.m;rintro e F⟨rfl,g⟩;have h:=V g;clear g;go_wp2_with (go_at_call 161;refine(m.q _).mono ?_;rintro e d⟨rfl,rfl⟩)
  go_ret;exact⟨a,rfl,V o.q.symm,h.q⟩
 rw[j]at m;cases p:Lib.hasSuffix a.data.toList [32]
 ·rw[p]at r;have o:U (S.Ip s=a.data.toList):=V (by rw[y.q,p];simp);clear j p;go_enter func199,ntmps199;go_wp2_with fail
  apply v.m;rintro e F⟨rfl,g⟩;have h:=V g;clear g;go_wp2_with (first|(go_at_call 161;refine(m.q _).mono ?_;rintro e d⟨rfl,rfl⟩)|(go_at_call 174;refine(r.q _).mono ?_;rintro e d⟨rfl,rfl⟩))
  go_ret;exact⟨a,rfl,V o.q.symm,h.q⟩
 rw[p]at r;by_cases q:Lib.trimB a 32=[]
 ·rw[q]at x;have o:U (S.Ip s=a.data.toList):=V (by rw[y.q,q];simp);clear j p q;go_enter func199,ntmps199;go_wp2_with fail
  apply v.m;rintro e F⟨rfl,g⟩;have h:=V g;clear g;go_wp2_with (first|(go_at_call 161;refine(m.q _).mono ?_;rintro e d⟨rfl,rfl⟩)|(go_at_call 174;refine(r.q _).mono ?_;rintro e d⟨rfl,rfl⟩))
  refine(x.q _).mono ?_;rintro e T⟨rfl,u⟩;have E:=V u;clear u;go_wp2;go_ret;exact⟨a,rfl,V o.q.symm,h.q.trans (E.q.mono h.q.size)⟩
 have ab:2<=a.size:=by rw[<-S.lda];exact Q.q q j
 have o:U (S.Ip s=(a.data.toList.drop 1).take (a.data.toList.length-2)):=V (by rw[y.q,j,p,if_pos ⟨rfl,q⟩]);obtain⟨t,D⟩:∃t:Sb,t=⟨(Lib.trimB a 32).toArray⟩:=⟨_,rfl⟩;have G:0<t.size:=by rw[D,S.Pk];exact Qbf.2 q
 have aa:=S.Np t G;have W:=S.K9 t G;rw[<-D]at x;clear j p q D;have ae:(1:Int)<=(a.size:Int)-1:=Z;have af:((a.size:Int)-1).toNat=a.size-1:=Z;go_enter func199,ntmps199;go_wp2_with fail
 apply v.m;rintro e F⟨rfl,g⟩;have h:=V g;clear g;go_wp2_with (first|(go_at_call 161;refine(m.q _).mono ?_;rintro e d⟨rfl,rfl⟩)|(go_at_call 174;refine(r.q _).mono ?_;rintro e d⟨rfl,rfl⟩))
 refine(x.q _).mono ?_;rintro e T⟨rfl,u⟩;have E:=V u;clear u;go_wp2;go_ret;refine⟨a.extract 1 (s.size-1),rfl,V ?_,h.q.trans (E.q.mono h.q.size)⟩;rw[o.q,Kr,S.lda,M];congr 1
