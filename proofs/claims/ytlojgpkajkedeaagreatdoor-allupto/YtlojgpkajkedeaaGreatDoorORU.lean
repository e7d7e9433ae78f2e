import Derived.Test.YtlojgpkajkedeaaGreatDoorORN
set_option maxHeartbeats 0
set_option maxRecDepth 100000
namespace Go.Proofs.YtlojgpkajkedeaaGreatDoor
open Go.RowKit Go.Proofs.Tryz
theorem TF (b:UInt8)(w:Sw):Calls prog 133 #[.int .u8 (b.toNat:Int)] w λe g=>e=.returned (.bool (S.mark b))/\w=g:=by
 obtain⟨n,d⟩:=Qyy (b.toNat);have f:U (S.mark b=(((decide (32<n)&&decide (n<=126))&&!((decide (97<=n)&&decide (n<=122))||(decide (65<=n)&&decide (n<=90))))&&(decide (n<48)||decide (57<n)))):=V (by unfold S.mark S.letter;rw[d]);rw[d,f.q];clear d f;rcases (Z:n<33\/(33<=n/\n<=47)\/(48<=n/\n<=57)\/(58<=n/\n<=64)\/(65<=n/\n<=90)\/(91<=n/\n<=96)\/(97<=n/\n<=122)\/(123<=n/\n<=126)\/127<=n)with a|a|a|a|a|a|a|a|a
 all_goals (
  go_enter func133,ntmps133;go_wp2;go_ret;exact⟨Dy (by rw[SC];simp;omega),rfl⟩)
theorem WG (s:Sb)(k:Int)(w:Sw)(y : -1<=k)(z:k<=s.size):Calls prog 188 #[s,k] w λe o=>e=.returned (.int .i64 (S.side s k))/\w=o:=by
 by_cases r:k<0
 ·have a:U (S.side s k=0):=V (by unfold S.side;rw[if_pos (.inl r)]);go_enter func188,ntmps188;go_wp2;go_ret;exact⟨Bu a.q.symm,rfl⟩
 obtain⟨n,rfl⟩:∃n:Nat,k=n:=⟨k.toNat,Z⟩;by_cases u:n=s.size
 ·have a:U (S.side s (n:Int)=0):=V (by unfold S.side;rw[if_pos (.inr (by rw[S.lda];omega))]);subst u;go_enter func188,ntmps188;go_wp2;go_ret;exact⟨Bu a.q.symm,rfl⟩
 have t:n<s.size:=Z;have q:=S.Bz s n t;have h:=V (λx=>TF s[n] x);have a:U (S.side s (n:Int)=if s[n]=32\/s[n]=10 then 0 else if S.mark s[n]=true then 1 else 2):=V (by
  unfold S.side;rw[if_neg (by rw[S.lda];omega),Int.toNat_natCast,q])
 have A:¬(s.size:Int)<=(n:Int):=Z;clear q;by_cases d:s[n]=32
 ·have C:s[n].toNat=32:=by rw[d];rfl
  have l:U (S.side s (n:Int)=0):=V (by rw[a.q,if_pos (.inl d)]);clear d;go_enter func188,ntmps188;go_wp2;go_ret;exact⟨Bu l.q.symm,rfl⟩
 have v:(((s[n].toNat:Nat):Int) == 32)=false:=by
  rw[Qe];intro e;exact d (Qk.1 (by show s[n].toNat=32;omega))
 by_cases g:s[n]=10
 ·have E:s[n].toNat=10:=by rw[g];rfl
  have l:U (S.side s (n:Int)=0):=V (by rw[a.q,if_pos (.inr g)]);clear d g v;go_enter func188,ntmps188;go_wp2;go_ret;exact⟨Bu l.q.symm,rfl⟩
 have D:(((s[n].toNat:Nat):Int) == 10)=false:=by
  rw[Qe];intro e;exact g (Qk.1 (by show s[n].toNat=10;omega))
 have p:U (S.side s (n:Int)=if S.mark s[n]=true then 1 else 2):=V (by rw[a.q,if_neg (by rintro(j|j);exact d j;exact g j)])
 clear d g;cases f:S.mark s[n]
 ·rw[f]at h;have m:U (S.side s (n:Int)=2):=V (by rw[p.q,f];rfl);clear f;go_enter func188,ntmps188;go_wp2_with (go_at_call 133;refine(h.q _).mono ?_;rintro e o⟨rfl,rfl⟩)
  go_ret;exact⟨Bu m.q.symm,rfl⟩
 rw[f]at h;have m:U (S.side s (n:Int)=1):=V (by rw[p.q,f];rfl);clear f;go_enter func188,ntmps188;go_wp2_with (go_at_call 133;refine(h.q _).mono ?_;rintro e o⟨rfl,rfl⟩)
 go_ret;exact⟨Bu m.q.symm,rfl⟩
theorem Kw (l:List UInt8)(c:UInt8):Lib.hasPrefix l [c]=true↔l[0]?=some c:=by
 cases l with
 |nil=>simp[Lib.hasPrefix]
 |cons d a=>simp[Lib.hasPrefix];exact eq_comm
def tgt (l:List UInt8)(p:Nat):Nat:=if S.Gg (l.drop p)=true then p+2+S.E8 [40,41,60,62] (l.drop (p+1))else 0
theorem zge (s:Sb)(p:Nat)(w:Sw)(ag:s.size<=1000000)(af:p<=s.size):Calls prog 189 #[s,p] w λe W=>e=.returned (.int .i64 (tgt s p:Nat))/\w=W:=by
 have x:U (s.data.toList[p]?≠some 40->tgt s p=0):=V (λa=>by
  unfold tgt S.Gg;rw[if_neg];rw[SE,Kw,Qn,SL];exact λu=>a u.1)
 by_cases N:p<s.size
 ·have j:=S.Bz s p N;have E:¬(s.size:Int)<=(p:Int):=Z;by_cases g:s[p]=40
  ·have t:((s[p].toNat:Int) != 40)=false:=by simp[g]
   have y:U (tgt s p=if s.data.toList[p+1+S.E8 [40,41,60,62] (s.data.toList.drop (p+1))]?=some 41 then p+2+S.E8 [40,41,60,62] (s.data.toList.drop (p+1))else 0):=V (by
    unfold tgt S.Gg;rw[Qbb,Qbb];have e:Lib.hasPrefix (s.data.toList.drop p) [40]=true:=(by rw[Kw,Qn,SL,j,g]);rw[e,Bool.true_and,Nat.add_comm p 1,Nat.add_comm 1 p];have q:(Lib.hasPrefix (s.data.toList.drop (p+(1+S.E8 [40,41,60,62] (s.data.toList.drop (p+1))))) [41]=true)↔s.data.toList[p+1+S.E8 [40,41,60,62] (s.data.toList.drop (p+1))]?=some 41:=by
     rw[Kw,Qn,SL,Nat.add_assoc]
    by_cases a:s.data.toList[p+1+S.E8 [40,41,60,62] (s.data.toList.drop (p+1))]?=some 41
    ·rw[if_pos a,if_pos (q.2 a)]
    rw[if_neg a,if_neg (λu=>a (q.1 u))])
   clear j g;go_enter func189,ntmps189;go_wp2;go_loop [5] (λi=>∃f:Nat,p+1+f<=s.size/\i=.int .i64 (((p+1+f:Nat)):Int)/\U (∀h,h<f->∃b,(s.data.toList.drop (p+1))[h]?=some b/\32<b.toNat/\b∉([40,41,60,62]:List UInt8))) (λi=>s.size-(intOf i).toNat)
   case atStart=>exact⟨0,Z,by go_num,V (λh K=>Z)⟩
   case round=>
    obtain⟨f,L,rfl,r⟩:=hrel;obtain⟨n,v⟩:=Qyy (p+1+f);rw[v]at L ⊢;have k:=V v;clear v;by_cases P:n<s.size
    ·have j:U (s.data.toList[n]?=some s[n]):=V (S.Bz s n P);have F:(n:Int)<(s.size:Int):=Z;have ae:(0:Int)<=(n:Int):=Z;have G:((n:Int) == (s.size:Int))=false:=(by rw[Qe];omega);have m:U (¬(32<s[n].toNat/\s[n].toNat≠40/\s[n].toNat≠41/\s[n].toNat≠60/\s[n].toNat≠62)->S.E8 [40,41,60,62] (s.data.toList.drop (p+1))=f):=V (λH=>by
      refine S.Tg _ _ f r.q (λb l g=>H ?_);rw[Qn,k.q,j.q]at l;cases l
      have z:=g.2;simp only[List.mem_cons,List.not_mem_nil,or_false,not_or,<-Qk]at z;exact⟨g.1,z⟩)
     have R:U ((32<s[n].toNat/\s[n].toNat≠40/\s[n].toNat≠41/\s[n].toNat≠60/\s[n].toNat≠62)->∀h,h<f+1->∃b,(s.data.toList.drop (p+1))[h]?=some b/\32<b.toNat/\b∉([40,41,60,62]:List UInt8)):=V (λC h K=>by
      by_cases e:h=f
      ·subst e;refine⟨s[n],by rw[Qn,k.q];exact j.q,C.1,?_⟩;simp only[List.mem_cons,List.not_mem_nil,or_false,not_or,<-Qk];exact C.2
      exact r.q h Z)
     have o:U (S.E8 [40,41,60,62] (s.data.toList.drop (p+1))=f->tgt s p=if s[n].toNat=41 then n+1 else 0):=V (λM=>by
      rw[y.q,M,k.q,j.q];have A:(some s[n]=some (41:UInt8))↔s[n].toNat=41:=by
       rw[Option.some.injEq,<-Qk];exact Iff.rfl
      by_cases e:s[n].toNat=41
      ·rw[if_pos e,if_pos (A.2 e)];have:=k.q;omega
      rw[if_neg e,if_neg (λa=>e (A.1 a))])
     clear r y x;rcases (Z:(32<s[n].toNat/\s[n].toNat≠40/\s[n].toNat≠41/\s[n].toNat≠60/\s[n].toNat≠62)\/s[n].toNat<=32\/s[n].toNat=40\/s[n].toNat=60\/s[n].toNat=62\/s[n].toNat=41)with a|a|a|a|a|a
     ·have aa:((s[n].toNat:Int) != 40)=true:=(by rw[bne_iff_ne];omega);have q:((s[n].toNat:Int) != 41)=true:=(by rw[bne_iff_ne];omega);have ab:((s[n].toNat:Int) != 60)=true:=(by rw[bne_iff_ne];omega);have ac:((s[n].toNat:Int) != 62)=true:=(by rw[bne_iff_ne];omega);have T:=V (R.q a);have D:(32:Int)<(s[n].toNat:Int):=Z;clear a;go_wp2;exact⟨⟨f+1,by have:=k.q;omega,by have:=k.q;go_num,T⟩,by simp[intOf];omega⟩
     ·have q:((s[n].toNat:Int) != 41)=true:=(by rw[bne_iff_ne];omega);have d:=V ((o.q (m.q Z)).trans (if_neg Z));have D:¬(32:Int)<(s[n].toNat:Int):=Z;clear a;go_wp2;go_ret;exact⟨Bu (by rw[d.q];rfl),rfl⟩
     ·have d:=V ((o.q (m.q Z)).trans (if_neg Z));go_wp2;go_ret;exact⟨Bu (by rw[d.q];rfl),rfl⟩
     ·have d:=V ((o.q (m.q Z)).trans (if_neg Z));go_wp2;go_ret;exact⟨Bu (by rw[d.q];rfl),rfl⟩
     ·have d:=V ((o.q (m.q Z)).trans (if_neg Z));go_wp2;go_ret;exact⟨Bu (by rw[d.q];rfl),rfl⟩
     have d:=V ((o.q (m.q Z)).trans (if_pos a));go_wp2;go_ret;exact⟨Bu (by rw[d.q];go_num),rfl⟩
    have Q:n=s.size:=Z;have d:U (tgt s p=0):=V (by
     have t:S.E8 [40,41,60,62] (s.data.toList.drop (p+1))=f:=S.Tg _ _ f r.q (λb l=>by
      rw[Qn,k.q,Qr (by rw[S.lda];omega)]at l;cases l)
     rw[y.q,t,k.q,Qr (by rw[S.lda];omega)];rfl)
    have F:¬(n:Int)<(s.size:Int):=Z;have G:((n:Int) == (s.size:Int))=true:=(by rw[Sqb];omega);clear Q;go_wp2;go_ret;exact⟨Bu (by rw[d.q];rfl),rfl⟩
  have t:((s[p].toNat:Int) != 40)=true:=by
   rw[bne_iff_ne];intro a;exact g (Qk.1 (by show s[p].toNat=40;omega))
  have d:=V (x.q (by rw[j];simpa using g));clear j g;go_enter func189,ntmps189;go_wp2;go_ret;exact⟨Bu (by rw[d.q];rfl),rfl⟩
 have E:(s.size:Int)<=(p:Int):=Z;have d:=V (x.q (by rw[Qr (by rw[S.lda];omega)];simp));go_enter func189,ntmps189;go_wp2;go_ret;exact⟨Bu (by rw[d.q];rfl),rfl⟩
def F5 (l:List UInt8)(p:Nat):Nat:=if S.Eb (l.drop p)=true then p+S.Hf (l.drop p)+1 else 0
theorem zkv (l:List UInt8)(p L:Nat)(h:S.letters (l.drop (p+1))=L)(a:L<2\/8<L\/l[p+1+L]?≠some 58):F5 l p=0:=by
 unfold F5 S.Eb S.Ud S.colon;rw[Qbb,Nat.add_comm p 1,Nat.add_comm 1 p,h,Qbb,if_neg];rw[SE,Bool.not_eq_true',Bool.or_eq_false_iff,Bool.or_eq_false_iff,Bool.not_eq_false',Kw,Qn,SL,decide_eq_false_iff_not,decide_eq_false_iff_not,<-Nat.add_assoc];rintro⟨⟨⟨d,f⟩,g⟩,_⟩;rcases a with a|a|a
 ·exact d a
 ·exact f a
 exact a g
theorem zdd (l:List UInt8)(p L A:Nat)(h:S.letters (l.drop (p+1))=L)(m:¬L<2)(d:¬8<L)(o:l[p+1+L]?=some 58)(q:S.E8 [60,62] (l.drop (p+1+L))=A):F5 l p=if l[p+1+L+A]?=some 62 then p+1+L+A+1 else 0:=by
 have f:S.colon (l.drop p)=1+L:=by unfold S.colon;rw[Qbb,Nat.add_comm p 1,Nat.add_comm 1 p,h]
 have j:S.Hf (l.drop p)=1+L+A:=by unfold S.Hf;rw[f,Qbb,<-Nat.add_assoc,q]
 have k:S.Ud (l.drop p)=false:=by
  unfold S.Ud;rw[f,Qbb,Qbb,h,Bool.or_eq_false_iff,Bool.or_eq_false_iff,Bool.not_eq_false',Kw,Qn,SL,decide_eq_false_iff_not,decide_eq_false_iff_not,<-Nat.add_assoc];exact⟨⟨m,d⟩,o⟩
 have g:(Lib.hasPrefix ((l.drop p).drop (1+L+A)) [62]=true)↔l[p+1+L+A]?=some 62:=by
  rw[Kw,Qbb,Qn,SL,<-Nat.add_assoc,<-Nat.add_assoc]
 unfold F5 S.Eb;rw[k,j,Bool.not_false,Bool.true_and];by_cases a:l[p+1+L+A]?=some 62
 ·rw[if_pos a,if_pos (g.2 a)];omega
 rw[if_neg a,if_neg (λd=>a (g.1 d))]
theorem zn8 (s:Sb)(p:Nat)(w:Sw)(a3:s.size<=1000000)(a2:p<s.size):Calls prog 137 #[s,p] w λe au=>e=.returned (.int .i64 (F5 s p:Nat))/\w=au:=by
 obtain⟨r,G⟩:=Qyy (S.letters (s.data.toList.drop (p+1)));have am:p+1+r<=s.size:=by
  have:=S.TL (s.data.toList.drop (p+1));rw[G,Qf,S.lda]at this;omega
 have H:=V G;clear G;go_enter func137,ntmps137;go_wp2;go_loop [5] (λi=>∃f:Nat,p+1+f<=s.size/\i=.int .i64 (((p+1+f:Nat)):Int)/\U (∀g,g<f->((s.data.toList.drop (p+1))[g]?.map S.letter)=some true)) (λi=>s.size-(intOf i).toNat)
 case atStart=>exact⟨0,Z,by go_num,V (λg N=>Z)⟩
 case round=>
 obtain⟨f,A,rfl,m⟩:=hrel;obtain⟨a,K⟩:∃n,p+1+f=n:=⟨_,rfl⟩;rw[K]at A ⊢;have j:=V K;clear K;have aj:(0:Int)<=(a:Int):=Z;by_cases v:∃d:a<s.size,S.letter s[a]=true
 ·obtain⟨u,C⟩:=v;have x:(a:Int)<(s.size:Int):=Z;have D:U (∀g,g<f+1->((s.data.toList.drop (p+1))[g]?.map S.letter)=some true):=V (λg N=>by
   by_cases e:g=f
   ·subst e;rw[Qn,j.q,S.Bz s a u,Sq,C]
   exact m.q g Z)
  have d:(97<=s[a].toNat/\s[a].toNat<=122)\/(65<=s[a].toNat/\s[a].toNat<=90):=by unfold S.letter at C;simpa using C
  clear m C;rcases d with d|d
  ·go_wp2;exact⟨⟨f+1,by have:=j.q;omega,by have:=j.q;go_num,D⟩,by simp[intOf];omega⟩
  by_cases az:97<=s[a].toNat
  ·omega
  go_wp2;exact⟨⟨f+1,by have:=j.q;omega,by have:=j.q;go_num,D⟩,by simp[intOf];omega⟩
 have h:U (r=f):=V (by
  rw[<-H.q];refine S.BO _ f m.q ?_;rw[Qn,j.q];by_cases u:a<s.size
  ·rw[S.Bz s a u,Sq];intro e;exact v ⟨u,Qy e⟩
  rw[Qr (by rw[S.lda];omega)];simp)
 have af:=V v;clear m v;go_upto_region 2 with fail
 go_cut [35] (λar av=>ar=.bool false/\w=av)
 case first=>
  by_cases u:a<s.size
  ·have x:(a:Int)<(s.size:Int):=Z;have ap:¬((97<=s[a].toNat/\s[a].toNat<=122)\/(65<=s[a].toNat/\s[a].toNat<=90)):=λd=>af.q ⟨u,by unfold S.letter;simpa using d⟩;rcases (Z:s[a].toNat<65\/(90<s[a].toNat/\s[a].toNat<97)\/122<s[a].toNat)with d|d|d
   all_goals (clear ap;go_wp2;go_meet;exact⟨by first|rfl|(congr 1;simp;omega),rfl⟩)
  have x:¬(a:Int)<(s.size:Int):=Z;go_wp2;go_meet;exact⟨rfl,rfl⟩
 case rest=>
 obtain⟨rfl,rfl⟩:=hcut;have y:U (p+1+r=a):=V (by rw[h.q];exact j.q);obtain⟨k,ab⟩:=Qyy (r+1);have a4:IntKind.i64.wrap ((a:Int)-(p:Int))=(k:Int):=by have:=y.q;rw[Sqe];omega
 have a5:(a:Int)-(p:Int)=(k:Int):=by have:=y.q;omega
 have ac:=V ab;have l:U ((k<3\/9<k\/s.data.toList[a]?≠some 58)->F5 s p=0):=V (λd=>zkv _ p r H.q (by rw[y.q];rcases d with d|d|d;exact .inl Z;exact .inr (.inl Z);exact .inr (.inr d)))
 have am:a<=s.size:=A;clear ab af;by_cases E:k<3
 ·have h:=V (l.q (.inl E));have x:(k:Int)<3:=Z;clear l;go_wp2;go_ret;exact⟨Bu (by rw[h.q];rfl),rfl⟩
 have a0:¬(k:Int)<3:=Z;by_cases ah:9<k
 ·have h:=V (l.q (.inr (.inl ah)));have x:(9:Int)<(k:Int):=Z;clear l;go_wp2;go_ret;exact⟨Bu (by rw[h.q];rfl),rfl⟩
 have a1:¬(9:Int)<(k:Int):=Z;by_cases ai:a<s.size
 ·have t:=S.Bz s a ai;have ak:(a:Int)<(s.size:Int):=Z;have ae:((a:Int) == (s.size:Int))=false:=by rw[Qe];omega
  by_cases o:s[a]=58
  ·have R:((s[a].toNat:Int) != 58)=false:=by simp[o]
   obtain⟨q,F⟩:=Qyy (S.E8 [60,62] (s.data.toList.drop a));have M:U (F5 s p=if s.data.toList[a+q]?=some 62 then a+q+1 else 0):=V (by
    have:=zdd s p r q H.q (by have:=ac.q;omega) (by have:=ac.q;omega) (by rw[y.q,t,o]) (by rw[y.q];exact F);rw[y.q]at this;exact this)
   have aa:=V F;clear l t o F;go_upto_region 6 with fail
   go_loop [5] (λi=>∃f:Nat,a+f<=s.size/\i=.int .i64 (((a+f:Nat)):Int)/\U (∀g,g<f->∃b,(s.data.toList.drop a)[g]?=some b/\32<b.toNat/\b∉([60,62]:List UInt8))) (λi=>s.size-(intOf i).toNat)
   case atStart=>exact⟨0,Z,by go_num,V (λg N=>Z)⟩
   case round=>
    obtain⟨f,A,rfl,m⟩:=hrel;obtain⟨n,P⟩:=Qyy (a+f);rw[P]at A ⊢;have j:=V P;clear P ae R;by_cases u:n<s.size
    ·have t:U (s.data.toList[n]?=some s[n]):=V (S.Bz s n u);have x:(n:Int)<(s.size:Int):=Z;have aj:(0:Int)<=(n:Int):=Z;have al:((n:Int) == (s.size:Int))=false:=(by rw[Qe];omega);have L:U (¬(32<s[n].toNat/\s[n].toNat≠60/\s[n].toNat≠62)->q=f):=V (λl=>by
      rw[<-aa.q];refine S.Tg _ _ f m.q (λb z o=>l ?_);rw[Qn,j.q,t.q]at z;cases z
      have T:=o.2;simp only[List.mem_cons,List.not_mem_nil,or_false,not_or,<-Qk]at T;exact⟨o.1,T⟩)
     have aq:U ((32<s[n].toNat/\s[n].toNat≠60/\s[n].toNat≠62)->∀g,g<f+1->∃b,(s.data.toList.drop a)[g]?=some b/\32<b.toNat/\b∉([60,62]:List UInt8)):=V (λv g N=>by
      by_cases e:g=f
      ·subst e;refine⟨s[n],by rw[Qn,j.q];exact t.q,v.1,?_⟩;simp only[List.mem_cons,List.not_mem_nil,or_false,not_or,<-Qk];exact v.2
      exact m.q g Z)
     have Q:U (q=f->F5 s p=if s[n].toNat=62 then n+1 else 0):=V (λan=>by
      rw[M.q,an,j.q,t.q];have W:(some s[n]=some (62:UInt8))↔s[n].toNat=62:=by
       rw[Option.some.injEq,<-Qk];exact Iff.rfl
      by_cases e:s[n].toNat=62
      ·rw[if_pos e,if_pos (W.2 e)]
      rw[if_neg e,if_neg (λd=>e (W.1 d))])
     clear m M;rcases (Z:(32<s[n].toNat/\s[n].toNat≠60/\s[n].toNat≠62)\/s[n].toNat<=32\/s[n].toNat=60\/s[n].toNat=62)with d|d|d|d
     ·have ax:((s[n].toNat:Int) != 60)=true:=(by rw[bne_iff_ne];omega);have ay:((s[n].toNat:Int) != 62)=true:=(by rw[bne_iff_ne];omega);have D:=V (aq.q d);have ag:(32:Int)<(s[n].toNat:Int):=Z;clear d;go_wp2;exact⟨⟨f+1,by have:=j.q;omega,by have:=j.q;go_num,D⟩,by simp[intOf];omega⟩
     ·have aw:((s[n].toNat:Int) != 62)=true:=(by rw[bne_iff_ne];omega);have h:=V ((Q.q (L.q Z)).trans (if_neg Z));have ag:¬(32:Int)<(s[n].toNat:Int):=Z;clear d;go_wp2;go_ret;exact⟨Bu (by rw[h.q];rfl),rfl⟩
     ·have h:=V ((Q.q (L.q Z)).trans (if_neg Z));go_wp2;go_ret;exact⟨Bu (by rw[h.q];rfl),rfl⟩
     have h:=V ((Q.q (L.q Z)).trans (if_pos d));go_wp2;go_ret;exact⟨Bu (by rw[h.q];go_num),rfl⟩
    have ao:n=s.size:=Z;have h:U (F5 s p=0):=V (by
     have E:q=f:=aa.q.symm.trans (S.Tg _ _ f m.q (λb z=>by
      rw[Qn,j.q,Qr (by rw[S.lda];omega)]at z;cases z))
     rw[M.q,E,j.q,Qr (by rw[S.lda];omega)];rfl)
    have x:¬(n:Int)<(s.size:Int):=Z;have al:((n:Int) == (s.size:Int))=true:=(by rw[Sqb];omega);clear ao;go_wp2;go_ret;exact⟨Bu (by rw[h.q];rfl),rfl⟩
  have R:((s[a].toNat:Int) != 58)=true:=by
   rw[bne_iff_ne];intro d;exact o (Qk.1 (by show s[a].toNat=58;omega))
  have h:=V (l.q (.inr (.inr (by rw[t];simpa using o))));clear l t o;go_wp2;go_ret;exact⟨Bu (by rw[h.q];rfl),rfl⟩
 have h:=V (l.q (.inr (.inr (by rw[Qr (by rw[S.lda];omega)];simp))));have ak:(a:Int)=(s.size:Int):=Z;have ae:((a:Int) == (s.size:Int))=true:=by rw[Sqb];omega
 clear l;go_wp2;go_ret;exact⟨Bu (by rw[h.q];rfl),rfl⟩
def Xt (p n:Nat):Option Nat->Nat
 |some a=>p+a+n
 |none=>0
def Jd (l:List UInt8)(p:Nat):Nat:=Xt p (S.cnt 96 (l.drop p)) (S.Ji (l.drop p) (S.cnt 96 (l.drop p)))
theorem S.zek (n f a:Nat)(l:List UInt8)(k:Nat)(m:l.length<f)(o:l.length<a):S.Ga n f l k=S.Ga n a l k:=by
 induction f generalizing a l k with
 |zero=>omega
 |succ f h=>
  obtain⟨a,rfl⟩:∃p,a=p+1:=⟨a-1,Z⟩;cases l with
  |nil=>rfl
  |cons b j=>
   simp only[S.Ga];simp only[Qd]at m o;by_cases d:b=96
   ·have q:1<=S.cnt 96 (b::j):=(by rw[d];simp[S.cnt]);rw[if_pos d,if_pos d];by_cases g:S.cnt 96 (b::j)=n
    ·rw[if_pos g,if_pos g]
    rw[if_neg g,if_neg g];exact h _ _ _ (by rw[Qf,Qd];omega) (by rw[Qf,Qd];omega)
   rw[if_neg d,if_neg d];exact h _ _ _ Z Z
theorem zf4 (s:Sb)(p:Nat)(w:Sw)(R:s.size<=1000000)(ae:p<s.size)(M:s[p]=96):Calls prog 135 #[s,p] w λe g=>e=.returned (.int .i64 (Jd s p:Nat))/\w=g:=by
 obtain⟨n,o⟩:=Qyy (S.cnt 96 (s.data.toList.drop p));obtain⟨j,F⟩:=Qyy (S.Ji (s.data.toList.drop p) n);have z:=Nq s p 96 w R Z;rw[o]at z;have W:U (Calls prog 126 #[s,p,.int .u8 96] w λe g=>e=.returned n/\w=g):=V (z.mono (λe g ⟨x,y⟩=>⟨x,y.symm⟩));have aq:1<=n:=by
  have r:=S.Bz s p ae;obtain⟨D,G⟩:=Qb.1 r;rw[<-o,Qm D,G,M];simp[S.cnt]
 have ac:p+n<=s.size:=by rw[<-o];have:=S.Gf 96 (s.data.toList.drop p);rw[Qf,S.lda]at this;omega
 have Q:U (Jd s p=Xt p n j):=V (by unfold Jd;rw[o,F]);have af:U (S.Ga n (s.size+1) (s.data.toList.drop (p+n)) n=j):=V (by
  rw[<-F];unfold S.Ji;rw[Qbb];exact S.zek n _ _ _ _ (by rw[Qf,S.lda];omega) (by rw[Qf,Qf,S.lda];omega))
 have ai:IntKind.i64.wrap ((p:Int)+(n:Int))=((p+n:Nat):Int):=by rw[Sqe];omega
 clear o F z M;go_enter func135,ntmps135;go_wp2_with fail
 apply W.m;rintro e g⟨rfl,rfl⟩;go_upto_region 3 with fail
 go_loop [6,7] (λi _=>∃a h l:Nat,a=p+h/\n<=h/\a<=s.size/\i=.int .i64 (a:Nat)/\s.size-a<l/\U (S.Ga n l (s.data.toList.drop a) h=j)) (λi _=>s.size-(intOf i).toNat)
 case atStart=>exact⟨p+n,n,s.size+1,rfl,Qc _,ac,by go_num,Z,af⟩
 case round=>
  obtain⟨a,h,l,K,ar,ao,rfl,aj,t⟩:=hrel;have L:=V K;clear K ai;obtain⟨m,rfl⟩:∃m,l=m+1:=⟨l-1,Z⟩;by_cases aa:a<s.size
  ·have r:=S.Bz s a aa;have q:U (s.data.toList.drop a=s[a]::s.data.toList.drop (a+1)):=V (by
    obtain⟨D,G⟩:=Qb.1 r;rw[Qm D,G])
   have T:(a:Int)<(s.size:Int):=Z;obtain⟨d,k⟩:=Qyy (S.cnt 96 (s.data.toList.drop a));have A:=Nq s a 96 w R Z;rw[k]at A;have H:U (Calls prog 126 #[s,a,.int .u8 96] w λe g=>e=.returned d/\w=g):=V (A.mono (λe g ⟨x,y⟩=>⟨x,y.symm⟩));have an:a+d<=s.size:=by rw[<-k];have:=S.Gf 96 (s.data.toList.drop a);rw[Qf,S.lda]at this;omega
   obtain⟨f,N⟩:=Qyy (max 1 d);have ap:max (1:Int) (d:Int)=(f:Int):=Z;have ab:a+f<=s.size:=Z;have u:U ((if d=n then some h else S.Ga n m (s.data.toList.drop (a+f)) (h+f))=j):=V (by
    have:=t.q;rw[q.q]at this;simp only[S.Ga]at this;by_cases v:s[a]=96
    ·have al:1<=d:=(by rw[<-k,q.q,v];simp[S.cnt]);rw[if_pos v,<-q.q,k,Qbb]at this;rw[show f=d by omega];exact this
    have ak:d=0:=(by rw[<-k,q.q];simp[S.cnt,v]);rw[if_neg v]at this;rw[if_neg Z,show f=1 by omega];exact this)
   have P:=V N;clear r k A t N;by_cases C:d=n
   ·subst C;have ah:U (j=some h):=V (by rw[<-u.q,if_pos rfl]);clear u;have E:U (Jd s p=a+d):=V (by rw[Q.q,ah.q,L.q];rfl);go_wp2_with (fail);apply H.m;rintro e g⟨rfl,rfl⟩;go_wp2;go_ret;exact⟨Bu (by rw[E.q];go_num),rfl⟩
   have am:(((d:Nat):Int) == ((n:Nat):Int))=false:=by rw[Qe];omega
   have ag:U (S.Ga n m (s.data.toList.drop (a+f)) (h+f)=j):=V (by rw[<-u.q,if_neg C]);clear u C;go_wp2_with (fail);apply H.m;rintro e g⟨rfl,rfl⟩;go_wp2;exact⟨⟨a+f,h+f,m,by have:=L.q;omega,Z,ab,by go_num,by have:=P.q;omega,ag⟩,by simp[intOf];have:=P.q;omega⟩
  have E:U (Jd s p=0):=V (by
   have:=t.q;rw[Qw (by rw[S.lda];omega)]at this;rw[Q.q,<-this];rfl)
  have T:¬(a:Int)<(s.size:Int):=Z;clear t;go_wp2;go_ret;exact⟨Bu (by rw[E.q];rfl),rfl⟩
def Gj (l:List UInt8):List UInt8:=l.map (λb=>if b=10 then 32 else b)
def Nj (l:List UInt8):List UInt8:=if 1<(Gj l).length/\(Gj l)[0]?=some 32/\(Gj l)[(Gj l).length-1]?=some 32/\S.Ar (Gj l)=false then ((Gj l).drop 1).take ((Gj l).length-2)else Gj l
theorem zld (l:List UInt8)(k:Nat)(b:UInt8)(a:l[k]?=some b):(Gj l).take (k+1)=(Gj l).take k++[if b=10 then 32 else b]:=by
 have d:=(Qb.1 a).1;rw[Sv];congr 1
 unfold Gj;rw[SA,a];rfl
theorem zc4 (s:Sb)(w:Sw)(au:s.size<=1000000):Calls prog 136 #[s] w λe o=>e=.returned (.string (S.B (Nj s)))/\w=o:=by
 obtain⟨f,H⟩:=Qyy (Gj s);have ab:f.length=s.size:=by rw[<-H];unfold Gj;rw[List.length_map,S.lda]
 have ae:U (∀a b,s.data.toList[a]?=some b->f.take (a+1)=f.take a++[if b=10 then 32 else b]):=V (λa b h=>by rw[<-H];exact zld _ a b h)
 have P:U (Nj s=if 1<f.length/\f[0]?=some 32/\f[f.length-1]?=some 32/\S.Ar f=false then (f.drop 1).take (f.length-2)else f):=V (by unfold Nj;rw[H])
 clear H;go_enter func136,ntmps136;go_upto_region 3 with fail
 go_loop [3,4] (λag i=>∃a:Nat,a<=s.size/\i=.int .i64 a/\ag=.string (S.B (f.take a))) (λ_ i=>s.size-(intOf i).toNat)
 case atStart=>exact⟨0,Qt _,rfl,rfl⟩
 case round=>
  obtain⟨a,ap,rfl,rfl⟩:=hrel;by_cases N:a<s.size
  ·have K:=S.Bz s a N;have W:(a:Int)<(s.size:Int):=Z;have aj:(0:Int)<=(a:Int):=Z;have M:(a:Int)+1<=(s.size:Int):=Z;have E:=ae.q a _ K;obtain⟨u,G⟩:=Qyy (f.take a);have ao:u.length<=1000000:=by rw[<-G,Ql];omega
   rw[G]at E ⊢;by_cases v:s[a]=10
   ·have F:((s[a].toNat:Int) == 10)=true:=(by simp[v]);have ac:Op.stringOp .add (S.B u) ⟨#[32]⟩=pure (.string (S.B (f.take (a+1)))):=by
     rw[Nl _ _ (by rw[S.Bc];show u.length+1<=_;omega),E,if_pos v];exact congrArg (λah=>pure (Value.string ah)) (by unfold S.B;apply ByteArray.ext;simp[ByteArray.data_append])
    clear K v E G;go_wp2;exact⟨⟨a+1,Z,by go_num,rfl⟩,by simp[intOf];omega⟩
   have F:((s[a].toNat:Int) == 10)=false:=by
    rw[Qe];intro h;exact v (Qk.1 (by show s[a].toNat=10;omega))
   have ac:Op.stringOp .add (S.B u) (s.extract a (a+1))=pure (.string (S.B (f.take (a+1)))):=by
    rw[Nl _ _ (by rw[S.Bc,Sqc];omega),E,if_neg v];congr 2
    apply ByteArray.ext
    have e:(s.extract a (a+1)).data.toList=[s[a]]:=by
     rw[Kr,Qm (by rw[S.lda];exact N),show a+1-a=1 by omega];obtain⟨aq,af⟩:=Qb.1 K;rw[af];rfl
    apply Array.toList_inj.1
    rw[ByteArray.data_append,Array.toList_append,e];first|done|rfl
   clear K v E G;go_wp2;exact⟨⟨a+1,Z,by go_num,rfl⟩,by simp[intOf];omega⟩
  have z:f.take a=f:=Qbj Z;rw[z];obtain⟨d,j⟩:=Qyy (S.B f);have k:d.data.toList=f:=by rw[<-j,S.Bq]
  have D:d.size=s.size:=by rw[<-j,S.Bc,ab]
  have p:=Lb d w Z;rw[k]at p;obtain⟨A,r⟩:=Qyy (S.Ar f);rw[r]at p;have C:U (Calls prog 67 #[d] w λe o=>e=.returned A/\w=o):=V (p.mono (λe o ⟨F,T⟩=>⟨F,T.symm⟩));have W:¬(a:Int)<(s.size:Int):=Z;have aa:=V j;rw[j];have m:U (¬(1<f.length/\f[0]?=some 32/\f[f.length-1]?=some 32/\A=false)->S.B (Nj s)=d):=V (λh=>by rw[P.q,if_neg (by rw[r];exact h)];exact aa.q);by_cases F:1<d.size
  ·obtain⟨g,L⟩:∃g,d.size=g+1:=⟨d.size-1,Z⟩;have x:f[0]?=some d[0]:=by have:=S.Bz d 0 Z;rw[k]at this;exact this
   have y:f[f.length-1]?=some d[g]:=by have:=S.Bz d g Z;rw[k]at this;rw[show f.length-1=g by omega];exact this
   have M:(1:Int)<(d.size:Int):=Z;have ak:IntKind.i64.wrap ((d.size:Int)-1)=(g:Int):=by rw[Sqe];omega
   have al:(g:Int)<(d.size:Int):=Z;have am:(0:Int)<(d.size:Int):=Z;have ar:g<d.size:=Z;have ai:0<d.size:=Z;by_cases q:d[0]=32
   ·have Q:((d[0].toNat:Int) == 32)=true:=(by simp[q]);by_cases t:d[g]=32
    ·have R:((d[g].toNat:Int) == 32)=true:=(by simp[t]);cases A
     ·have l:U (S.B (Nj s)=d.extract 1 g):=V (by
       rw[P.q,if_pos ⟨Z,by rw[x,q],by rw[y,t],r⟩];rw[<-S.El (d.extract 1 g),Kr,k];congr 2;omega)
      have an:(1:Int)<=(g:Int):=Z;clear D k p r x y q t m z j L;go_wp2_with (fail);apply C.m;rintro e o⟨rfl,rfl⟩;go_wp2;go_ret;exact⟨by rw[l.q];rfl,rfl⟩
     have l:=V (m.q Y);clear D k p r x y q t m z j L;go_wp2_with (fail);apply C.m;rintro e o⟨rfl,rfl⟩;go_wp2;go_ret;exact⟨by rw[l.q];rfl,rfl⟩
    have R:((d[g].toNat:Int) == 32)=false:=by
     rw[Qe];intro h;exact t (Qk.1 (by show d[g].toNat=32;omega))
    have l:=V (m.q (by rw[y];rintro⟨_,_,h,_⟩;exact t (Qy h)));clear D k p r x y q t m z j L;go_wp2_with (fail);apply C.m;rintro e o⟨rfl,rfl⟩;go_wp2;go_ret;exact⟨by rw[l.q];rfl,rfl⟩
   have Q:((d[0].toNat:Int) == 32)=false:=by
    rw[Qe];intro h;exact q (Qk.1 (by show d[0].toNat=32;omega))
   have l:=V (m.q (by rw[x];rintro⟨_,h,_,_⟩;exact q (Qy h)));clear D k p r x y q m z j L;go_wp2_with (fail);apply C.m;rintro e o⟨rfl,rfl⟩;go_wp2;go_ret;exact⟨by rw[l.q];rfl,rfl⟩
  have l:=V (m.q (by rintro⟨h,_⟩;omega));have M:¬(1:Int)<(d.size:Int):=Z;clear D k p r m z j;go_wp2_with fail
  apply C.m;rintro e o⟨rfl,rfl⟩;go_wp2;go_ret;exact⟨by rw[l.q];rfl,rfl⟩
structure Af where
 what:Int
 s:List UInt8
 node:Rn
 c:UInt8
 n:Nat
 left:Nat
 op:Bool
 cl:Bool
 im:Bool
 dead:Bool
def O8:Rn:=.nd 0 0 [] [] 0 []
def Dg (p:Af)(kv:Value):List Value:=[.int .i64 p.what,.string (S.B p.s),.int .i64 0,.int .i64 p.node.kind,.int .i64 p.node.n,.string (S.B p.node.info),.string (S.B p.node.text),.int .i64 p.node.line,kv,.int .u8 (p.c.toNat:Int),.int .i64 (p.n:Nat),.int .i64 (p.left:Nat),.bool p.op,.bool p.cl,.bool p.im,.bool p.dead]
def N9 (p:Af)(kv:Value):Value:=.agg (Dg p kv).toArray
def Cn (l:List UInt8):Af:=⟨0,l,O8,0,0,0,false,false,false,false⟩
theorem IW {W:Sw}{N T:Nat}{Q M K G E C z x u s q o l j g d:Value}(R:W.heap[N]?=some (.cells #[Q,M,K,G,E,C,z,x,u,s,q,o,l,j,g,d] T (0,0)))(a f h k m p r t v y A D F H L P:Value):((((((((((((((((W.setCell N a).setCell (N 1) f).setCell (N 2) h).setCell (N 3) k).setCell (N 4) m).setCell (N 5) p).setCell (N 6) r).setCell (N 7) t).setCell (N 8) v).setCell (N 9) y).setCell (N 10) A).setCell (N 11) D).setCell (N 12) F).setCell (N 13) H).setCell (N 14) L).setCell (N 15) P).heap[N]?=some (.cells #[a,f,h,k,m,p,r,t,v,y,A,D,F,H,L,P] T (0,0)):=
 Aj (cs:=[a,f,h,k,m,p,r,t,v,y,A,D,F,H,L,d]) (Aj (cs:=[a,f,h,k,m,p,r,t,v,y,A,D,F,H,g,d]) (Aj (cs:=[a,f,h,k,m,p,r,t,v,y,A,D,F,j,g,d]) (Aj (cs:=[a,f,h,k,m,p,r,t,v,y,A,D,l,j,g,d]) (Aj (cs:=[a,f,h,k,m,p,r,t,v,y,A,o,l,j,g,d]) (Aj (cs:=[a,f,h,k,m,p,r,t,v,y,q,o,l,j,g,d]) (Aj (cs:=[a,f,h,k,m,p,r,t,v,s,q,o,l,j,g,d]) (Aj (cs:=[a,f,h,k,m,p,r,t,u,s,q,o,l,j,g,d]) (Aj (cs:=[a,f,h,k,m,p,r,x,u,s,q,o,l,j,g,d]) (Aj (cs:=[a,f,h,k,m,p,z,x,u,s,q,o,l,j,g,d]) (Aj (cs:=[a,f,h,k,m,C,z,x,u,s,q,o,l,j,g,d]) (Aj (cs:=[a,f,h,k,E,C,z,x,u,s,q,o,l,j,g,d]) (Aj (cs:=[a,f,h,G,E,C,z,x,u,s,q,o,l,j,g,d]) (Aj (cs:=[a,f,K,G,E,C,z,x,u,s,q,o,l,j,g,d]) (Aj (cs:=[a,M,K,G,E,C,z,x,u,s,q,o,l,j,g,d]) (Aj (cs:=[Q,M,K,G,E,C,z,x,u,s,q,o,l,j,g,d]) R 0 a) 1 f) 2 h) 3 k) 4 m) 5 p) 6 r) 7 t) 8 v) 9 y) 10 A) 11 D) 12 F) 13 H) 14 L) 15 P
theorem OB {B:Nat}{w W:Sw}{N:Nat}(d:Below B w W)(a:B<=N)(f g q r s t u v x y h j k l m o:Value):Below B w ((((((((((((((((W.setCell N f).setCell (N 1) g).setCell (N 2) q).setCell (N 3) r).setCell (N 4) s).setCell (N 5) t).setCell (N 6) u).setCell (N 7) v).setCell (N 8) x).setCell (N 9) y).setCell (N 10) h).setCell (N 11) j).setCell (N 12) k).setCell (N 13) l).setCell (N 14) m).setCell (N 15) o):=
 ((((((((((((((((d.setCell (p:=⟨N,0,none⟩) a _).setCell (p:=⟨N,1,none⟩) a _).setCell (p:=⟨N,2,none⟩) a _).setCell (p:=⟨N,3,none⟩) a _).setCell (p:=⟨N,4,none⟩) a _).setCell (p:=⟨N,5,none⟩) a _).setCell (p:=⟨N,6,none⟩) a _).setCell (p:=⟨N,7,none⟩) a _).setCell (p:=⟨N,8,none⟩) a _).setCell (p:=⟨N,9,none⟩) a _).setCell (p:=⟨N,10,none⟩) a _).setCell (p:=⟨N,11,none⟩) a _).setCell (p:=⟨N,12,none⟩) a _).setCell (p:=⟨N,13,none⟩) a _).setCell (p:=⟨N,14,none⟩) a _).setCell (p:=⟨N,15,none⟩) a _)
theorem WU (w:Sw):∃a,a=w.alloc (.cells #[O,(),O,O,O,(),(),O,Sx,.int .u8 0,O,O,false,false,false,false] 196)/\Below w w a/\a.heap.size=(w:Nat)+1/\a.heap[w.heap.size]?=some (.cells #[O,(),O,O,O,(),(),O,Sx,.int .u8 0,O,O,false,false,false,false] 196 (0,0)):=
 ⟨_,rfl,Sr.alloc (Qc _) _,Y,Ak _ _⟩
theorem Wy (s:Sb)(w:Sw):Calls prog 134 #[s] w λe m=>e=.returned (N9 (Cn s) (.slice none 0 0))/\Below w w m:=by
 obtain⟨h,f,g,l,a⟩:=WU w;have d:=V (IW a (.int .i64 0) (.string s) (.int .i64 0) (.int .i64 0) (.int .i64 0) (.string ⟨#[]⟩) (.string ⟨#[]⟩) (.int .i64 0) (.slice none 0 0) (.int .u8 0) (.int .i64 0) (.int .i64 0) (.bool false) (.bool false) (.bool false) (.bool false));have k:=V (OB (N:=w.heap.size) g (Qc _) (.int .i64 0) (.string s) (.int .i64 0) (.int .i64 0) (.int .i64 0) (.string ⟨#[]⟩) (.string ⟨#[]⟩) (.int .i64 0) (.slice none 0 0) (.int .u8 0) (.int .i64 0) (.int .i64 0) (.bool false) (.bool false) (.bool false) (.bool false));have K:=X a 0 _ rfl;have L:=X a 1 _ rfl;have aa:=X a 2 _ rfl;have ab:=X a 3 _ rfl;have ac:=X a 4 _ rfl;have ae:=X a 5 _ rfl;have af:=X a 6 _ rfl;have ag:=X a 7 _ rfl;have ah:=X a 8 _ rfl;have ai:=X a 9 _ rfl;have M:=X a 10 _ rfl;have P:=X a 11 _ rfl;have Q:=X a 12 _ rfl;have R:=X a 13 _ rfl;have T:=X a 14 _ rfl;have W:=X a 15 _ rfl;have aj:=Av a;have ak:w<h.heap.size:=Z;have j:=V f;clear f g l a;go_enter func134,ntmps134;go_upto_region 1 with fail
 rw[<-j.q];go_wp2;refine Sqk (v:=.agg #[O,s,O,O,O,(),(),O,Sx,.int .u8 0,O,O,false,false,false,false]) (by have o:=X d.q 0 _ rfl;have p:=X d.q 1 _ rfl;have z:=X d.q 2 _ rfl;have A:=X d.q 3 _ rfl;have C:=X d.q 4 _ rfl;have D:=X d.q 5 _ rfl;have E:=X d.q 6 _ rfl;have F:=X d.q 7 _ rfl;have G:=X d.q 8 _ rfl;have H:=X d.q 9 _ rfl;have q:=X d.q 10 _ rfl;have r:=X d.q 11 _ rfl;have t:=X d.q 12 _ rfl;have u:=X d.q 13 _ rfl;have x:=X d.q 14 _ rfl;have y:=X d.q 15 _ rfl;simp[results,results134,go_sem,o,p,z,A,C,D,E,F,G,H,q,r,t,u,x,y]) rfl ?_;exact⟨by unfold N9 Dg Cn;simp only[S.El];rfl,k.q⟩
def Va (a b:Af):Bool:=if (!a.op||!a.cl)&&(!b.op||!b.cl)then true else (decide ((a.n+b.n) % 3≠0)||(decide (a.n % 3=0)&&decide (b.n % 3=0)))
theorem znp (aj:Int)(ab:Sb)(L R:Int)(i0 ag:Sb)(N:Int)(x:So)(C D:Nat)(z:Int)(a F:Nat)(h g aa W:Bool)(ak:Int)(ac:Sb)(M T:Int)(u ah:Sb)(P:Int)(y:So)(c1 E:Nat)(A:Int)(d G:Nat)(k j af ae:Bool)(w:Sw)(al:a<=1000000)(am:d<=1000000):Calls prog 190 #[.agg #[aj,ab,O,L,R,i0,ag,N,.slice x C D,.int .u8 z,a,F,h,g,aa,W],.agg #[ak,ac,O,M,T,u,ah,P,.slice y c1 E,.int .u8 A,d,G,k,j,af,ae]] w λe ai=>e=.returned (.bool (if (!h||!g)&&(!k||!j)then true else (decide ((a+d) % 3≠0)||(decide (a % 3=0)&&decide (d % 3=0)))))/\Below w w ai:=by
 have s:U (∀q r,Below w w ((w.alloc q).alloc r)):=V (λq r=>(Sr.alloc (Qc _) q).alloc Y r);obtain⟨v,m⟩:∃b,decide (a % 3=0)=b:=⟨_,rfl⟩;obtain⟨Q,o⟩:∃b,decide (d % 3=0)=b:=⟨_,rfl⟩;obtain⟨l,p⟩:∃b,decide ((a+d) % 3=0)=b:=⟨_,rfl⟩;have u:((a:Int) % 3 == 0)=v:=by rw[<-m,SC,Sqb,Sd];omega
 have an:((d:Int) % 3 == 0)=Q:=by rw[<-o,SC,Sqb,Sd];omega
 have H:(((a:Int)+(d:Int)) % 3 == 0)=l:=by rw[<-p,SC,Sqb,Sd];omega
 have K:(((a:Int)+(d:Int)) % 3 != 0) = !l:=by rw[bne,H]
 have t:decide ((a+d) % 3≠0) = !l:=by rw[<-p];simp
 rw[m,o,t];clear m o p t;by_cases f:((!h||!g)&&(!k||!j))=true
 ·rw[if_pos f];cases h<;>cases g<;>cases k<;>cases j<;>first|(exfalso;revert f;decide)|(
   clear f;go_enter func190,ntmps190;go_wp2;go_ret;exact⟨rfl,s.q _ _⟩)
 rw[if_neg f];cases h<;>cases g<;>cases k<;>cases j<;>first|(exfalso;revert f;decide)|(
  clear f;cases l<;>cases v
  all_goals (
   simp only[Bool.not_true,Bool.not_false]at K;go_enter func190,ntmps190;go_wp2;go_ret;exact⟨Dy Y,s.q _ _⟩))
theorem zgc (a b:Af)(d f:So)(g h c1 j:Nat)(w:Sw)(k:a.n<=1000000)(l:b.n<=1000000):Calls prog 190 #[N9 a (.slice d g h),N9 b (.slice f c1 j)] w λe m=>e=.returned (.bool (Va a b))/\Below w w m:=
 znp _ _ _ _ _ _ _ _ _ _ _ _ _ _ _ _ _ _ _ _ _ _ _ _ _ _ _ _ _ _ _ _ _ _ w k l
