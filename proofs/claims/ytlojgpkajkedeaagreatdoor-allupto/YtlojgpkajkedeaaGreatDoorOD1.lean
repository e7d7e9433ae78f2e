import Derived.Test.YtlojgpkajkedeaaGreatDoorOW7
import Derived.RegionTactic
import Derived.Deep.QuietTactic
import Derived.BigQuiet
import Derived.Deep.RegionHeld3
set_option maxHeartbeats 0
set_option maxRecDepth 100000
namespace Go.Proofs.YtlojgpkajkedeaaGreatDoor
open Go.RowKit Go.Proofs.Tryz
namespace S
def letter (b:UInt8):Bool:=(decide (97<=b.toNat)&&decide (b.toNat<=122))||(decide (65<=b.toNat)&&decide (b.toNat<=90))
def mark (b:UInt8):Bool:=((decide (32<b.toNat)&&decide (b.toNat<=126))&&!letter b)&&(decide (b.toNat<48)||decide (57<b.toNat))
def escapes (l:List UInt8):Bool:=match l[1]? with
 |some b=>mark b
 |none=>false
def same:List UInt8->Nat
 |[]=>0
 |c::a=>cnt c (c::a)
theorem zjr (l:List UInt8)(c:UInt8):(Lib.trimLeftB l c).length+cnt c l=l.length:=by
 unfold Lib.trimLeftB;induction l with
 |nil=>rfl
 |cons d g f=>
  by_cases a:d=c
  ·subst a;simp[cnt];omega
  simp[cnt,a]
end S
theorem TU (b:UInt8)(w:Sw):Calls prog 232 #[.int .u8 (b.toNat:Int)] w λe k=>e=.returned (.bool (S.letter b))/\w=k:=by
 obtain⟨n,a⟩:=Qyy (b.toNat);have d:U (S.letter b=((decide (97<=n)&&decide (n<=122))||(decide (65<=n)&&decide (n<=90)))):=V (by unfold S.letter;rw[a]);rw[a,d.q];clear a d;by_cases f:97<=n<;>by_cases g:n<=122<;>by_cases h:65<=n<;>by_cases j:n<=90
 all_goals (first|omega|(
  go_enter func232,ntmps232;go_wp2;go_ret;exact⟨Dy (by simp[f,g,h,j]<;>omega),rfl⟩))
theorem RI (b:UInt8)(w:Sw):Calls prog 205 #[.int .u8 (b.toNat:Int)] w λe h=>e=.returned (.bool (S.mark b))/\w=h:=by
 have f:=V (λo=>TU b o);obtain⟨n,a⟩:=Qyy (b.toNat);obtain⟨lt,d⟩:=Qyy (S.letter b);have g:U (S.mark b=(((decide (32<n)&&decide (n<=126))&&!lt)&&(decide (n<48)||decide (57<n)))):=V (by unfold S.mark;rw[a,d]);rw[a,d]at f;rw[a,g.q];clear a g d;by_cases j:32<n<;>by_cases k:n<=126<;>cases lt<;>by_cases l:n<48<;>by_cases m:57<n
 all_goals (first|omega|(
  go_enter func205,ntmps205;go_wp2_with (go_at_call 232;refine(f.q _).mono ?_;rintro e h⟨rfl,rfl⟩)
  go_ret;exact⟨Dy (by simp[j,k,l,m]<;>omega),rfl⟩))
theorem zdy (s:Sb)(w:Sw)(j:s.size<=maxLen):Calls prog 160 #[s] w λe f=>e=.returned (.bool (S.escapes s))/\w=f:=by
 unfold maxLen at j;by_cases g:1<s.size
 ·have d:=S.Bz s 1 g;have h:=V (λk=>RI s[1] k);have a:U (S.escapes s=S.mark s[1]):=V (by unfold S.escapes;rw[d]);clear d;go_enter func160,ntmps160;go_wp2_with (go_at_call 205;refine(h.q _).mono ?_;rintro e f⟨rfl,rfl⟩)
  go_ret;exact⟨Dy a.q.symm,rfl⟩
 have a:U (S.escapes s=false):=V (by unfold S.escapes;rw[Qr (by rw[S.lda];omega)]);go_enter func160,ntmps160;go_wp2;go_ret;exact⟨Dy a.q.symm,rfl⟩
theorem Xi (s:Sb)(w:Sw)(p:s.size<=maxLen)(d:0<s.size)(m:s[0].toNat<128):Calls prog 153 #[s] w λe a=>e=.returned (.int .i64 (S.same s:Nat))/\w=a:=by
 unfold maxLen at p;have hd:=S.Uu s d;have g:S.same s=S.cnt s[0] s.data.toList:=by rw[hd];rfl
 have h:=S.KZ s d;have l:U (Calls prog 197 #[s,.string (s.extract 0 1)] w λe a=>e=.returned (.string ⟨(Lib.trimLeftB s s[0]).toArray⟩)/\w=a):=V (by
  rw[h];exact(Tryz.strings_TrimLeft_one s s[0] m w).mono (λe a ⟨j,k⟩=>⟨j,k.symm⟩))
 have f:=S.zjr s s[0];rw[S.lda]at f;have r:(⟨(Lib.trimLeftB s s[0]).toArray⟩:Sb).size=(Lib.trimLeftB s s[0]).length:=S.Pk _;have o:U ((s.size:Int)-((Lib.trimLeftB s s[0]).length:Int)=(S.same s:Nat)):=V (by rw[g];omega);have q:(Lib.trimLeftB s s[0]).length<=s.size:=Z;clear hd g h f;go_enter func153,ntmps153;go_wp2_with fail
 apply l.m;rintro e a⟨rfl,rfl⟩;go_wp2;go_ret;exact⟨Bu (by rw[<-o.q]),rfl⟩
namespace S
def E8 (a:List UInt8):List UInt8->Nat
 |[]=>0
 |b::d=>if 32<b.toNat/\b∉a then E8 a d+1 else 0
theorem HY (a:List UInt8)(l:List UInt8):E8 a l<=l.length:=by
 induction l with
 |nil=>simp[E8]
 |cons b f d=>simp only[E8,Qd];split<;>omega
theorem Tg (g:List UInt8)(l:List UInt8)(k:Nat)(f:∀d,d<k->∃b,l[d]?=some b/\32<b.toNat/\b∉g)(h:∀b,l[k]?=some b->¬(32<b.toNat/\b∉g)):E8 g l=k:=by
 induction l generalizing k with
 |nil=>cases k with
  |zero=>rfl
  |succ k=>obtain⟨b,a,_⟩:=f 0 Z;simp at a
 |cons o q m=>cases k with
  |zero=>have:=h o rfl;simp only[E8];rw[if_neg this]
  |succ k=>
   obtain⟨b,a,j⟩:=f 0 Z;simp at a;subst a;have:=m k (λd p=>by have:=f (d+1) Z;simpa using this) (λb a=>h b (by simpa using a));simp only[E8];rw[if_pos j,this]
def letters:List UInt8->Nat
 |[]=>0
 |b::a=>if letter b=true then letters a+1 else 0
theorem TL (l:List UInt8):letters l<=l.length:=by
 induction l with
 |nil=>simp[letters]
 |cons b d a=>simp only[letters,Qd];split<;>omega
theorem BO (l:List UInt8)(k:Nat)(d:∀a,a<k->(l[a]?.map letter)=some true)(f:(l[k]?.map letter)≠some true):letters l=k:=by
 induction l generalizing k with
 |nil=>cases k with
  |zero=>rfl
  |succ k=>have:=d 0 Z;simp at this
 |cons o m h=>cases k with
  |zero=>simp at f;simp[letters,f]
  |succ k=>
   have g:=d 0 Z;simp at g;have:=h k (λa j=>by have:=d (a+1) Z;simpa using this) (by simpa using f);simp[letters,this,g]
def side (l:List UInt8)(k:Int):Int:=if k<0\/k=l.length then 0 else match l[k.toNat]? with
 |some b=>if b=32\/b=10 then 0 else if mark b=true then 1 else 2
 |none=>0
def leans (a b:Int):Bool:=decide (a≠0)&&(decide (a≠1)||decide (b≠2))
def I9 (l:List UInt8)(k n:Nat):Bool:=
 if l[k]?=some 42 then leans (side l ((k+n:Nat):Int)) (side l ((k:Int)-1))
 else leans (side l ((k+n:Nat):Int)) (side l ((k:Int)-1))&&(!leans (side l ((k:Int)-1)) (side l ((k+n:Nat):Int))||decide (side l ((k:Int)-1)=1))
def I7 (l:List UInt8)(k n:Nat):Bool:=
 if l[k]?=some 42 then leans (side l ((k:Int)-1)) (side l ((k+n:Nat):Int))
 else leans (side l ((k:Int)-1)) (side l ((k+n:Nat):Int))&&(!leans (side l ((k+n:Nat):Int)) (side l ((k:Int)-1))||decide (side l ((k+n:Nat):Int)=1))
theorem Wv (l:List UInt8)(k:Int):side l k=0\/side l k=1\/side l k=2:=by
 unfold side;split;·exact .inl rfl
 split
 ·split
  ·exact .inl rfl
  split
  ·exact .inr (.inl rfl)
  exact .inr (.inr rfl)
 exact .inl rfl
def fits (a:Nat)(f:Bool)(d:Nat)(g:Bool):Bool:=
 if f=false/\g=false then true else (decide (a % 3=0)&&decide (d % 3=0))||decide ((a+d) % 3≠0)
end S
theorem TV (s d:Sb)(w:Sw)(z:s.size<=maxLen):Calls prog 233 #[s,d] w λe h=>e=.returned (.int .i64 (S.E8 d s:Nat))/\w=h:=by
 unfold maxLen at z;go_enter func233,ntmps233;go_wp2;go_loop [5] (λi=>∃a:Nat,a<=s.size/\i=.int .i64 a/\U (∀f,f<a->∃b,s.data.toList[f]?=some b/\32<b.toNat/\b∉d.data.toList)) (λi=>s.size-(intOf i).toNat)
 case atStart=>exact⟨0,Qt _,rfl,V (λf x=>Z)⟩
 case round=>
  obtain⟨a,C,rfl,m⟩:=hrel;by_cases y:a<s.size
  ·have r:=S.Bz s a y;have q:U (Calls prog 169 #[d,.int .u8 (s[a].toNat:Int)] w λe h=>e=.returned (.int .i64 (Lib.indexByte d s[a]))/\w=h):=V (by
    have:=Tryz.strings_IndexByte d (s[a].toNat:Int) w;simp only[Int.toNat_natCast]at this;have e:s[a].toNat.toUInt8=s[a]:=Y;rw[e]at this;exact this.mono (λe h ⟨l,j⟩=>⟨l,j.symm⟩))
   have t:=S.Xm d s[a];have u:=V t;have p:=V r;clear t r;by_cases l:32<s[a].toNat
   ·by_cases j:Lib.indexByte d s[a]<0
    ·have v:U (∀f,f<a+1->∃b,s.data.toList[f]?=some b/\32<b.toNat/\b∉d.data.toList):=V (λf x=>by
      by_cases e:f=a
      ·subst e;exact⟨_,p.q,l,u.q.1 j⟩
      exact m.q f Z)
     go_wp2_with (go_at_call 169;apply q.m;rintro e h⟨rfl,rfl⟩)
     go_round
     case rel=>exact⟨a+1,Z,by go_num,v⟩
     case measure=>exact Sj
    have k:U (S.E8 d s=a):=V (S.Tg _ _ a m.q (λb g o=>by
     rw[p.q]at g;cases g;exact j (u.q.2 o.2)))
    have A:=j;go_wp2_with (go_at_call 169;apply q.m;rintro e h⟨rfl,rfl⟩)
    go_ret;exact⟨Bu (by rw[k.q]),rfl⟩
   have k:U (S.E8 d s=a):=V (S.Tg _ _ a m.q (λb g o=>by
    rw[p.q]at g;cases g;exact l o.1))
   go_wp2;go_ret;exact⟨Bu (by rw[k.q]),rfl⟩
  have k:U (S.E8 d s=a):=V (S.Tg _ _ a m.q (λb g=>by
   rw[Qr (by rw[S.lda];omega)]at g;cases g))
  go_wp2;go_ret;exact⟨Bu (by rw[k.q]),rfl⟩
theorem PY (s:Sb)(k:Int)(w:Sw)(y : -1<=k)(z:k<=s.size):Calls prog 234 #[s,k] w λe o=>e=.returned (.int .i64 (S.side s k))/\w=o:=by
 by_cases r:k<0
 ·have a:U (S.side s k=0):=V (by unfold S.side;rw[if_pos (.inl r)]);go_enter func234,ntmps234;go_wp2;go_ret;exact⟨Bu a.q.symm,rfl⟩
 obtain⟨n,rfl⟩:∃n:Nat,k=n:=⟨k.toNat,Z⟩;by_cases u:n=s.size
 ·have a:U (S.side s (n:Int)=0):=V (by unfold S.side;rw[if_pos (.inr (by rw[S.lda];omega))]);subst u;go_enter func234,ntmps234;go_wp2;go_ret;exact⟨Bu a.q.symm,rfl⟩
 have t:n<s.size:=Z;have q:=S.Bz s n t;have h:=V (λx=>RI s[n] x);have a:U (S.side s (n:Int)=if s[n]=32\/s[n]=10 then 0 else if S.mark s[n]=true then 1 else 2):=V (by
  unfold S.side;rw[if_neg (by rw[S.lda];omega),Int.toNat_natCast,q])
 have A:((n:Int) == (s.size:Int))=false:=by rw[Qe];omega
 clear q;by_cases d:s[n]=32
 ·have C:s[n].toNat=32:=by rw[d];rfl
  have l:U (S.side s (n:Int)=0):=V (by rw[a.q,if_pos (.inl d)]);clear d;go_enter func234,ntmps234;go_wp2;go_ret;exact⟨Bu l.q.symm,rfl⟩
 have v:(((s[n].toNat:Nat):Int) == 32)=false:=by
  rw[Qe];intro e;exact d (Qk.1 (by show s[n].toNat=32;omega))
 by_cases g:s[n]=10
 ·have E:s[n].toNat=10:=by rw[g];rfl
  have l:U (S.side s (n:Int)=0):=V (by rw[a.q,if_pos (.inr g)]);clear d g v;go_enter func234,ntmps234;go_wp2;go_ret;exact⟨Bu l.q.symm,rfl⟩
 have D:(((s[n].toNat:Nat):Int) == 10)=false:=by
  rw[Qe];intro e;exact g (Qk.1 (by show s[n].toNat=10;omega))
 have p:U (S.side s (n:Int)=if S.mark s[n]=true then 1 else 2):=V (by rw[a.q,if_neg (by rintro(j|j);exact d j;exact g j)])
 clear d g;cases f:S.mark s[n]
 ·rw[f]at h;have m:U (S.side s (n:Int)=2):=V (by rw[p.q,f];rfl);clear f;go_enter func234,ntmps234;go_wp2_with (go_at_call 205;refine(h.q _).mono ?_;rintro e o⟨rfl,rfl⟩)
  go_ret;exact⟨Bu m.q.symm,rfl⟩
 rw[f]at h;have m:U (S.side s (n:Int)=1):=V (by rw[p.q,f];rfl);clear f;go_enter func234,ntmps234;go_wp2_with (go_at_call 205;refine(h.q _).mono ?_;rintro e o⟨rfl,rfl⟩)
 go_ret;exact⟨Bu m.q.symm,rfl⟩
theorem PI (a b:Int)(w:Sw)(f:a=0\/a=1\/a=2)(d:b=0\/b=1\/b=2):Calls prog 235 #[a,b] w λe g=>e=.returned (.bool (S.leans a b))/\w=g:=by
 rcases f with rfl|rfl|rfl<;>rcases d with rfl|rfl|rfl <;>
 ·go_enter func235,ntmps235;go_wp2;go_ret;exact⟨Dy rfl,rfl⟩
namespace S
def addrOf (l:List UInt8):List UInt8:=(l.drop 1).take (E8 [40,41,60,62] (l.drop 1))
def Gg (l:List UInt8):Bool:=Lib.hasPrefix l [40]&&Lib.hasPrefix (l.drop (1+E8 [40,41,60,62] (l.drop 1))) [41]
def colon (l:List UInt8):Nat:=1+letters (l.drop 1)
def Hf (l:List UInt8):Nat:=colon l+E8 [60,62] (l.drop (colon l))
def Ud (l:List UInt8):Bool:=decide (letters (l.drop 1)<2)||decide (8<letters (l.drop 1))||!Lib.hasPrefix (l.drop (colon l)) [58]
def Eb (l:List UInt8):Bool:=!Ud l&&Lib.hasPrefix (l.drop (Hf l)) [62]
def Gv (l:List UInt8):List UInt8:=(l.drop 1).take (Hf l-1)
def Ga (size:Nat):Nat->List UInt8->Nat->Option Nat
 |0,_,_=>none
 |_+1,[],_=>none
 |f+1,b::a,d=>if b=96 then (if cnt 96 (b::a)=size then some d else Ga size f ((b::a).drop (cnt 96 (b::a))) (d+cnt 96 (b::a)))else Ga size f a (d+1)
def Ji (l:List UInt8)(size:Nat):Option Nat:=Ga size (l.length+1) (l.drop size) size
end S
theorem zll (s:Sb)(k n:Nat)(w:Sw)(N:s.size<=1000000)(H:k<s.size)(K:k+n<=s.size):Calls prog 202 #[s,k,n] w λe f=>e=.returned (.agg #[n,.bool (S.I9 s k n),.bool (S.I7 s k n)])/\Below w w f:=by
 have o:=S.Bz s k H;obtain⟨a,h⟩:=Qyy (S.side s ((k:Int)-1));obtain⟨d,j⟩:=Qyy (S.side s ((k+n:Nat):Int));have u:a=0\/a=1\/a=2:=h▸S.Wv _ _;have x:d=0\/d=1\/d=2:=j▸S.Wv _ _;have C:U (∀g,Calls prog 234 #[s,((k:Int)-1:Int)] g λe f=>e=.returned a/\g=f):=V (λg=>by have:=PY s ((k:Int)-1) g Z Z;rw[h]at this;exact this);have D:U (∀g,Calls prog 234 #[s,((k:Int)+(n:Int):Int)] g λe f=>e=.returned d/\g=f):=V (λg=>by have:=PY s ((k+n:Nat):Int) g Z Z;rw[j]at this;exact this);have y:=V (λg=>PI d a g x u);have z:=V (λg=>PI a d g u x);obtain⟨rt,q⟩:=Qyy (S.leans d a);obtain⟨m,p⟩:=Qyy (S.leans a d);rw[q]at y;rw[p]at z;have E:U (∀A,Below w w (w.alloc A)):=V (λA=>Sr.alloc (Qc _) A);by_cases l:s[k]=42
 ·have Q:s[k].toNat=42:=by rw[l];rfl
  have t:U (S.I9 s k n=rt):=V (by unfold S.I9;rw[o,l,if_pos rfl,h,j,q]);have r:U (S.I7 s k n=m):=V (by unfold S.I7;rw[o,l,if_pos rfl,h,j,p]);rw[t.q,r.q];clear l o h j u x q p t r;go_enter func202,ntmps202;go_wp2_with fail
  refine(C.q _).mono ?_;rintro e f⟨rfl,rfl⟩;go_wp2_with fail
  refine(D.q _).mono ?_;rintro e f⟨rfl,rfl⟩;go_wp2_with fail
  refine(y.q _).mono ?_;rintro e f⟨rfl,rfl⟩;go_wp2_with fail
  refine(z.q _).mono ?_;rintro e f⟨rfl,rfl⟩;go_wp2;exact Sqk (v:=.agg #[n,rt,m]) (by simp[results,results202,go_sem]) rfl ⟨rfl,E.q _⟩
 have P:(((s[k].toNat:Nat):Int) == 42)=false:=by
  rw[Qe];intro e;exact l (Qk.1 (by show s[k].toNat=42;omega))
 have t:U (S.I9 s k n=(rt&&(!m||decide (a=1)))):=V (by unfold S.I9;rw[o,if_neg (by simpa using l),h,j,q,p]);have r:U (S.I7 s k n=(m&&(!rt||decide (d=1)))):=V (by unfold S.I7;rw[o,if_neg (by simpa using l),h,j,q,p]);rw[t.q,r.q];clear l o h j q p t r;have L:(a == 1)=decide (a=1):=by rw[SC,Sqb,Sd]
 have M:(d == 1)=decide (d=1):=by rw[SC,Sqb,Sd]
 generalize decide (a=1)=F at *;generalize decide (d=1)=G at *;clear u x;cases rt<;>cases m<;>cases F<;>cases G <;>
 ·go_enter func202,ntmps202;go_wp2_with fail
  refine(C.q _).mono ?_;rintro e f⟨rfl,rfl⟩;go_wp2_with fail
  refine(D.q _).mono ?_;rintro e f⟨rfl,rfl⟩;go_wp2_with fail
  refine(y.q _).mono ?_;rintro e f⟨rfl,rfl⟩;go_wp2_with fail
  refine(z.q _).mono ?_;rintro e f⟨rfl,rfl⟩;go_wp2;exact Sqk (v:=.agg #[n,.bool _,.bool _]) (by simp[results,results202,go_sem]<;>exact⟨rfl,rfl⟩) rfl ⟨rfl,E.q _⟩
theorem zlg (a d:Nat)(v l m x:Bool)(w:Sw)(z:a<=1000000)(A:d<=1000000):Calls prog 243 #[.agg #[a,v,l],.agg #[d,m,x]] w λe y=>e=.returned (.bool (S.fits a l d m))/\Below w w y:=by
 have o:U (∀j k,Below w w ((w.alloc j).alloc k)):=V (λj k=>(Sr.alloc (Qc _) j).alloc Y k);cases l<;>cases m
 ·go_enter func243,ntmps243;go_wp2;go_ret;exact⟨rfl,o.q _ _⟩
 all_goals (
  by_cases f:a % 3=0<;>by_cases g:d % 3=0<;>by_cases h:(a+d) % 3=0
  all_goals (first|omega|(
   have s:((a:Int) % 3 == 0)=decide (a % 3=0):=by rw[SC,Sqb,Sd];omega
   have t:((d:Int) % 3 == 0)=decide (d % 3=0):=by rw[SC,Sqb,Sd];omega
   have u:(((a:Int)+(d:Int)) % 3 == 0)=decide ((a+d) % 3=0):=by rw[SC,Sqb,Sd];omega
   simp only[f,g,h]at s t u;have p:=V f;have q:=V g;have r:=V h;clear f g h;go_enter func243,ntmps243;go_wp2;go_ret;exact⟨Dy (by have f:=p.q;have g:=q.q;have h:=r.q;simp[S.fits,f,g,h]<;>omega),o.q _ _⟩)))
