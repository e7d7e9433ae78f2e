import Derived.Lib.Strings
import Derived.Lib.Bytealg
import Derived.Lib.TrimByte
import Derived.Lib.Atoi
import Derived.Lib.AtoiAll
import Derived.Lib.SplitLaws
import Derived.Lib.IndexBytes
set_option maxHeartbeats 0
set_option maxRecDepth 100000
namespace Go.Proofs.YtlojgpkajkedeaaGreatDoor
abbrev Qa:=@List.length_append
abbrev Qb:=@List.getElem?_eq_some_iff
abbrev Qc:=@Nat.le_refl
abbrev Qd:=@List.length_cons
abbrev Qe:=@beq_eq_false_iff_ne
abbrev Qf:=@List.length_drop
abbrev Qg:=@List.getElem?_eq_getElem
abbrev Qh:=@Nat.lt_of_lt_of_le
abbrev Qi:=@List.length_nil
abbrev Qj:=@Nat.le_trans
abbrev Qk:=@UInt8.toNat_inj
abbrev Ql:=@List.length_take
abbrev Qm:=@List.drop_eq_getElem_cons
abbrev Qn:=@List.getElem?_drop
abbrev Qo:=@List.mem_cons_of_mem
abbrev Qp:=@List.append_assoc
abbrev Qq:=@Array.getElem?_eq_some_iff
abbrev Qr:=@List.getElem?_eq_none
abbrev Qs:=@List.map_cons
abbrev Qt:=@Nat.zero_le
abbrev Qu:=@List.getElem?_append_right
abbrev Qv:=@List.map_append
abbrev Qw:=@List.drop_eq_nil_of_le
abbrev Qx:=@List.mem_cons_self
abbrev Qy:=@Option.some.inj
abbrev Qz:=@List.take_succ_cons
abbrev Qba:=@List.size_toArray
abbrev Qbb:=@List.drop_drop
abbrev Qbc:=@List.take_append_of_le_length
abbrev Qbd:=@List.getElem?_append_left
abbrev Qbe:=@List.getElem?_take_of_lt
abbrev Qbf:=@List.length_pos_iff
abbrev Qbg:=@List.length_eq_zero_iff
abbrev Qbh:=@List.mem_append
abbrev Qbi:=@List.mem_singleton
abbrev Qbj:=@List.take_of_length_le
abbrev Qbk:=@List.append_nil
abbrev Qbl:=@List.take_length
abbrev Sc:=@List.mem_cons
abbrev Sd:=@decide_eq_true_iff
abbrev Si:=@decide_eq_false
abbrev Sl:=@decide_eq_true
abbrev Sm:=@Nat.le_of_lt
abbrev Sq:=@Option.map_some
abbrev Sv:=@List.take_add_one
abbrev Sy:=@List.take_append_drop
abbrev SA:=@List.getElem?_map
abbrev SB:=@List.cons_append
abbrev SC:=@Bool.eq_iff_iff
abbrev SE:=@Bool.and_eq_true
abbrev SF:=@Nat.add_sub_cancel
abbrev SG:=@List.set_append_right
abbrev SH:=@List.mem_append_left
abbrev SI:=@Nat.min_eq_left
abbrev SK:=@List.sum_cons
abbrev SL:=@Nat.add_zero
abbrev SN:=@List.mem_of_getElem?
abbrev SV:=@List.mem_append_right
abbrev SX:=@Int.ofNat_inj
abbrev SY:=@List.nil_append
abbrev Sqa:=@List.not_mem_nil
abbrev Sqb:=@beq_iff_eq
abbrev Sqc:=@ByteArray.size_extract
abbrev Sqd:=@List.nodup_append
theorem Qyy {α:Sort _}(a:α):∃ x,a=x:=⟨a,rfl⟩
theorem Qzz {α:Sort _}(a:α):∃ x,x=a:=⟨a,rfl⟩
def U (p:Prop):Prop:=p
theorem U.q {p:Prop}(h:U p):p:=h
abbrev Sb:=ByteArray
theorem Z {p:Prop}(h:p:=by omega):p:=h
theorem Y {p:Prop}(h:p:=by simp):p:=h
theorem J {p:Prop}(h:p:=by decide):p:=h
theorem I {p:Prop}(h:p:=by rfl):p:=h
end Go.Proofs.YtlojgpkajkedeaaGreatDoor
namespace Go.Proofs.YtlojgpkajkedeaaGreatDoor.S
open Go
def B (l:List UInt8):ByteArray:=⟨l.toArray⟩
theorem Bc (l:List UInt8):(B l).size=l.length:=by simp[B,ByteArray.size]
theorem Bq (l:List UInt8):(B l).data.toList=l:=by simp[B]
theorem Tt (l:List UInt8):(ByteArray.mk l.toArray).data.toList=l:=Y
theorem Pk (l:List UInt8):(ByteArray.mk l.toArray).size=l.length:=by simp[ByteArray.size]
theorem El (s:ByteArray):B s.data.toList=s:=by cases s;simp[B]
theorem lda (s:ByteArray):s.data.toList.length=s.size:=(Lib.size_eq s).symm
theorem Bz (s:ByteArray)(k:Nat)(a:k<s.size):s.data.toList[k]?=some s[k]:=by
 rw[Qg (by rw[lda];exact a)];rfl
def cnt (c:UInt8):List UInt8->Nat
 |[]=>0
 |x::a=>if x=c then cnt c a+1 else 0
theorem Gf (c:UInt8)(l:List UInt8):cnt c l<=l.length:=by
 induction l with
 |nil=>simp[cnt]
 |cons f d a=>simp only[cnt];split<;>simp<;>omega
theorem Wt (c:UInt8)(l:List UInt8)(k:Nat)(d:∀a,a<k->l[a]?=some c)(f:l[k]?≠some c):cnt c l=k:=by
 induction l generalizing k with
 |nil=>cases k with
  |zero=>simp[cnt]
  |succ k=>have:=d 0 Z;simp at this
 |cons o m h=>cases k with
  |zero=>simp at f;simp[cnt,f]
  |succ k=>
   have g:=d 0 Z;simp at g;subst g;have:=h k (λa j=>by have:=d (a+1) Z;simpa using this) (by simpa using f);simp[cnt,this]
def Ap (l:List UInt8):Nat:=cnt 32 l
def Ar (l:List UInt8):Bool:=decide (Ap l=l.length)
def Aq (l:List UInt8):List UInt8:=if 4<=Ap l then []else l.drop (Ap l)
theorem Jz (l:List UInt8):Ap l<=l.length:=Gf 32 l
theorem Xf (l:List UInt8)(a:4<=Ap l):Aq l=[]:=by simp[Aq,a]
theorem Yt (l:List UInt8)(a:¬4<=Ap l):Aq l=l.drop (Ap l):=by simp[Aq,a]
theorem CF (l:List UInt8):(Aq l).length<=l.length:=by
 unfold Aq;split<;>simp
theorem Iw (s:ByteArray)(k:Nat):(s.extract k s.size).data.toList=s.data.toList.drop k:=by
 rw[Lib.extract_data];rw[Qbj];rw[Qf,lda];exact Qc _
theorem Za (s:ByteArray)(k:Nat):(s.extract 0 k).data.toList=s.data.toList.take k:=by
 rw[Lib.extract_data];simp
def Fa (l:List UInt8)(k:Nat):Bool:=decide (k=l.length)||decide (l[k]?=some 32)
def En (l:List UInt8):Nat:=if 6<cnt 35 (Aq l)\/Fa (Aq l) (cnt 35 (Aq l))=false then 0 else cnt 35 (Aq l)
def rowOf (l:List UInt8)(c:UInt8):Bool:=decide (0<cnt c l)&&Ar (l.drop (cnt c l))
def Ez (l:List UInt8):Nat:=if rowOf (Aq l) 61=true then 1 else if rowOf (Aq l) 45=true then 2 else 0
def Jg (c:UInt8)(a:Int)(l:List UInt8):Bool:=decide (a<=(cnt c (Aq l):Int))&&Ar ((Aq l).drop (cnt c (Aq l)))
def Az:List (List UInt8)->Nat
 |[]=>0
 |x::a=>if Ar x=true then Az a+1 else 0
theorem Ru (l:List (List UInt8)):Az l<=l.length:=by
 induction l with
 |nil=>simp[Az]
 |cons f d a=>simp only[Az];split<;>simp<;>omega
theorem V3 (l:List (List UInt8))(k:Nat)(d:∀a,a<k->(l[a]?.map Ar)=some true)(f:(l[k]?.map Ar)≠some true):Az l=k:=by
 induction l generalizing k with
 |nil=>cases k with
  |zero=>simp[Az]
  |succ k=>have:=d 0 Z;simp at this
 |cons o m h=>cases k with
  |zero=>simp at f;simp[Az,f]
  |succ k=>
   have g:=d 0 Z;simp at g;have:=h k (λa j=>by have:=d (a+1) Z;simpa using this) (by simpa using f);simp[Az,this,g]
def F9 (Ao:Int)(size at_:Nat):List (List UInt8)->Nat
 |[]=>size
 |x::a=>if Ar x=true then F9 Ao size (at_+1) a
  else if (Ap x:Int)<Ao then size else F9 Ao (at_+1) (at_+1) a
def Da (Ao:Int)(l:List (List UInt8)):Nat:=F9 Ao 1 1 l.tail
theorem zdf (m:Int)(z k:Nat)(l:List (List UInt8))(a:l.length<=k):F9 m z k (l.drop k)=z:=by
 rw[Qw a];rfl
theorem zit (m:Int)(z k:Nat)(l:List (List UInt8))(a:List UInt8)(d:l[k]?=some a):F9 m z k (l.drop k)=if Ar a=true then F9 m z (k+1) (l.drop (k+1))else if (Ap a:Int)<m then z else F9 m (k+1) (k+1) (l.drop (k+1)):=by
 obtain⟨f,g⟩:=Qb.1 d;rw[Qm f,g];rfl
theorem zmg (m:Int)(z k:Nat)(l:List (List UInt8))(d:z<=k):F9 m z k l<=k+l.length:=by
 induction l generalizing z k with
 |nil=>simp[F9];exact d
 |cons g f a=>
  simp only[F9,Qd];split
  ·have:=a z (k+1) Z;omega
  split
  ·omega
  have:=a (k+1) (k+1) Z;omega
theorem VY (m:Int)(z k:Nat)(l:List (List UInt8))(d:z<=k):z<=F9 m z k l:=by
 induction l generalizing z k with
 |nil=>simp[F9]
 |cons g f a=>
  simp only[F9];split
  ·exact a z (k+1) Z
  split
  ·omega
  have:=a (k+1) (k+1) Z;omega
theorem Ti (m:Int)(l:List (List UInt8)):1<=Da m l:=VY m 1 1 _ Z
theorem P9 (m:Int)(l:List (List UInt8))(a:0<l.length):Da m l<=l.length:=by
 have:=zmg m 1 1 l.tail Z;rw[List.length_tail]at this;unfold Da;omega
def Ea (l:List UInt8):Bool:=
 match Aq l with
 |[]=>false
 |c::a=>(decide (c=42)||decide (c=45)||decide (c=95))&&(decide (3<=(c::a).count c)&&decide ((c::a).count c+(c::a).count 32=(c::a).length))
def Cz (l:List UInt8):Bool:=Lib.hasPrefix (Aq l) [62]
def Kl (l:List UInt8):List UInt8:=Lib.trimPrefix ((Aq l).drop 1) [32]
theorem Xm (l:List UInt8)(c:UInt8):Lib.indexByte l c<0↔c∉l:=by
 induction l with
 |nil=>simp[Lib.indexByte]
 |cons b a g=>
  have k:=Lib.indexByte_ge a c;unfold Lib.indexByte;by_cases d:b=c
  ·simp[d]
  have j:(b == c)=false:=by simp[d]
  rw[j,if_neg Y];by_cases f:Lib.indexByte a c = -1
  ·rw[if_pos (by simp[f])];have:c∉a:=g.1 Z;simp[this,Ne.symm d]
  rw[if_neg (by simp[f])];have:¬c∉a:=λh=>by have:=g.2 h;omega
  simp at this;simp[this];omega
theorem KZ (r:ByteArray)(f:0<r.size):r.extract 0 1=⟨#[r[0]]⟩:=by
 rw[<-El (r.extract 0 1),Za];have:r.data.toList.take 1=[r[0]]:=by
  have a:=Bz r 0 f;cases d:r.data.toList with
  |nil=>rw[d]at a;simp at a
  |cons h g=>rw[d]at a;simp at a;simp[a]
 rw[this];rfl
theorem Np (r:ByteArray)(d:0<r.size):¬r.toList=[]:=by
 rw[Lib.toList_data];intro a;have:=lda r;rw[a]at this;simp at this;omega
theorem K9 (r:ByteArray)(a:0<r.size):r.toList.isEmpty=false:=by
 have:=Np r a;simpa using this
theorem Y9 (r:ByteArray)(a:r.size=0):r.toList=[]:=by
 rw[Lib.toList_data];apply List.eq_nil_of_length_eq_zero;rw[lda];exact a
theorem U1 (r:ByteArray)(a:r.size=0):r.data.toList=[]:=by
 apply List.eq_nil_of_length_eq_zero;rw[lda];exact a
theorem Uu (r:ByteArray)(f:0<r.size):r.data.toList=r[0]::r.data.toList.tail:=by
 have a:=Bz r 0 f;cases d:r.data.toList with
 |nil=>rw[d]at a;simp at a
 |cons h g=>rw[d]at a;simp at a;simp[a]
theorem zm5 (l:List UInt8)(c a:UInt8)(f:c≠a):l.count c+l.count a<=l.length:=by
 induction l with
 |nil=>simp
 |cons g k j=>
  simp only[List.count_cons,Qd];by_cases d:g=c
  ·have h:¬g=a:=λe=>f (d.symm.trans e);simp[d,f];omega
  simp[d];split<;>omega
theorem zil (l:List UInt8)(a:Aq l=[]):Ea l=false:=by unfold Ea;rw[a]
theorem YO (l:List UInt8)(c:UInt8)(t:List UInt8)(d:Aq l=c::t)(a:c∉[(42:UInt8),45,95]):Ea l=false:=by
 unfold Ea;rw[d];simp at a;simp[a]
theorem zn5 (l:List UInt8)(c:UInt8)(t:List UInt8)(a:Aq l=c::t)(d:c∈[(42:UInt8),45,95]):Ea l=(decide (3<=(Aq l).count c)&&decide ((Aq l).count c+(Aq l).count 32=(Aq l).length)):=by
 have:(decide (c=42)||decide (c=45)||decide (c=95))=true:=by
  simp at d;rcases d with a|a|a<;>simp[a]
 unfold Ea;rw[a];show ((_&&_)=_);rw[this,Bool.true_and]
def F3 (l:List UInt8):List UInt8:=Lib.trimB ((Aq l).drop (cnt 35 (Aq l))) 32
def Fp (l:List UInt8):List UInt8:=
 if (Lib.trimRightB (F3 l) 35).isEmpty=true\/Lib.hasSuffix (Lib.trimRightB (F3 l) 35) [32]=true then Lib.trimRightB (Lib.trimRightB (F3 l) 35) 32 else F3 l
theorem zhj (l:List UInt8)(c:UInt8):(Lib.trimLeftB l c).length<=l.length:=by
 unfold Lib.trimLeftB;exact(List.dropWhile_sublist _).length_le
theorem Po (l:List UInt8)(c:UInt8):(Lib.trimRightB l c).length<=l.length:=by
 unfold Lib.trimRightB;rw[List.length_reverse];have:=(List.dropWhile_sublist (λa=>a == c) (l:=l.reverse)).length_le;rw[List.length_reverse]at this;exact this
theorem Ul (l:List UInt8)(c:UInt8):(Lib.trimB l c).length<=l.length:=Qj (zhj _ _) (Po _ _)
end Go.Proofs.YtlojgpkajkedeaaGreatDoor.S
namespace Go.Proofs.YtlojgpkajkedeaaGreatDoor.S
open Go
def I5 (c:UInt8):Bool:=decide (48<=c.toNat)&&decide (c.toNat<=57)
def Ep:List UInt8->Nat
 |[]=>0
 |x::a=>if I5 x=true then Ep a+1 else 0
theorem zgb (l:List UInt8):Ep l<=l.length:=by
 induction l with
 |nil=>simp[Ep]
 |cons f d a=>simp only[Ep];split<;>simp<;>omega
theorem TD (l:List UInt8)(k:Nat)(d:∀a,a<k->(l[a]?.map I5)=some true)(f:(l[k]?.map I5)≠some true):Ep l=k:=by
 induction l generalizing k with
 |nil=>cases k with
  |zero=>simp[Ep]
  |succ k=>have:=d 0 Z;simp at this
 |cons o m h=>cases k with
  |zero=>simp at f;simp[Ep,f]
  |succ k=>
   have g:=d 0 Z;simp at g;have:=h k (λa j=>by have:=d (a+1) Z;simpa using this) (by simpa using f);simp[Ep,this,g]
theorem PK (l:List UInt8):∀a∈l.take (Ep l),I5 a=true:=by
 induction l with
 |nil=>simp
 |cons a j g=>
  simp only[Ep];split
  ·rename_i d;simp only[Qz,List.mem_cons];rintro h (rfl|f);·exact d
   exact g h f
  simp
def Iz (a:Nat):List UInt8:=if a=0 then [45,43,42]else [46,41]
def Bh (l:List UInt8):Nat:=
 if 6<Ep l then 0 else match l[Ep l]? with
  |none=>0
  |some c=>if c∈Iz (Ep l)then Ep l+1 else 0
theorem LC (l:List UInt8)(a:6<Ep l):Bh l=0:=by simp[Bh,a]
theorem KE (l:List UInt8)(a:Ep l=l.length):Bh l=0:=by
 unfold Bh;split;·rfl
 rw[Qr Z]
theorem JA (l:List UInt8)(c:UInt8)(a:l[Ep l]?=some c)(d:c∉Iz (Ep l)):Bh l=0:=by
 unfold Bh;split;·rfl
 rw[a];simp[d]
theorem VT (l:List UInt8)(c:UInt8)(d:¬6<Ep l)(a:l[Ep l]?=some c)(f:c∈Iz (Ep l)):Bh l=Ep l+1:=by
 unfold Bh;rw[if_neg d,a];simp[f]
theorem Zp (l:List UInt8):Bh l<=l.length:=by
 unfold Bh;split;·omega
 cases a:l[Ep l]? with
 |none=>simp
 |some c=>
  have:=(Qb.1 a).1;simp only[];split<;>omega
theorem zbb (l:List UInt8)(a:Bh l≠0):Bh l=Ep l+1/\Ep l<=6:=by
 unfold Bh at a ⊢;split at a;·exact absurd rfl a
 rename_i f;rw[if_neg f];cases d:l[Ep l]? with
 |none=>rw[d]at a;exact absurd rfl a
 |some c=>rw[d]at a;simp only[]at a ⊢;split at a
          ·rename_i g;rw[if_pos g];exact⟨rfl,Z⟩
          exact absurd rfl a
def dec (l:List UInt8):Nat:=l.foldl (λa b=>a*10+(b.toNat-48)) 0
def Al (l:List UInt8):Int:=if l=[]then -1 else (dec l:Int)
theorem zcl (l:List UInt8)(a:Nat)(f:∀d∈l,I5 d=true):Lib.decFrom a l=some (l.foldl (λa b=>a*10+(b.toNat-48)) a):=by
 induction l generalizing a with
 |nil=>rfl
 |cons d m j=>
  have g:=f d Y;simp only[I5,Bool.and_eq_true,decide_eq_true_eq]at g;simp only[Lib.decFrom,Lib.digitVal,if_pos g,List.foldl_cons];exact j _ (λk h=>f k (by simp[h]))
theorem zhe (l:List UInt8)(h:l≠[])(d:∀j∈l,I5 j=true):Lib.atoi l=some (dec l:Int):=by
 cases l with
 |nil=>exact absurd rfl h
 |cons b k=>
  have a:=d b Y;simp only[I5,Bool.and_eq_true,decide_eq_true_eq]at a;have f:(b == 45)=false:=by rw[Qe];intro e;rw[e]at a;simp at a
  have g:(b == 43)=false:=by rw[Qe];intro e;rw[e]at a;simp at a
  simp only[Lib.atoi];rw[f,g,if_neg Y,if_neg Y];unfold Lib.decNat;rw[if_neg Y,zcl _ _ d];rfl
def Hl (c:UInt8)(a:Nat)(info:List UInt8):Bool:=decide (3<=a)&&!(decide (c=96)&&decide (96∈info))
structure Fence where
 mark:UInt8
 width:Nat
 ind:Nat
 info:List UInt8
 ok:Bool
def Nk (l:List UInt8)(c:UInt8):List UInt8:=Lib.trimB (l.drop (cnt c l)) 32
def Bp (l:List UInt8):Fence:=
 match Aq l with
 |[]=>⟨0,0,0,[],false⟩
 |c::a=>if c=96\/c=126 then ⟨c,cnt c (c::a),Ap l,Nk (c::a) c,Hl c (cnt c (c::a)) (Nk (c::a) c)⟩else ⟨0,0,0,[],false⟩
theorem Zd (l:List UInt8)(a:Aq l=[]):Bp l=⟨0,0,0,[],false⟩:=by unfold Bp;rw[a]
theorem FM (l:List UInt8)(c:UInt8)(t:List UInt8)(a:Aq l=c::t)(d:¬c=96)(f:¬c=126):Bp l=⟨0,0,0,[],false⟩:=by
 unfold Bp;rw[a];simp[d,f]
theorem Xh (l:List UInt8)(c:UInt8)(t:List UInt8)(a:Aq l=c::t)(d:c=96\/c=126):Bp l=⟨c,cnt c (c::t),Ap l,Nk (c::t) c,Hl c (cnt c (c::t)) (Nk (c::t) c)⟩:=by
 unfold Bp;rw[a];simp[d]
structure Mark where
 kind:UInt8
 Al:Int
 Ao:Nat
 empty:Bool
 ok:Bool
def Ae (l:List UInt8):Mark:=
 if Bh (Aq l)=0\/Fa (Aq l) (Bh (Aq l))=false then ⟨0,0,0,false,false⟩
 else
  let n:=Bh (Aq l)
  let a:=(Aq l).drop n
  ⟨(Aq l).getD (n-1) 0,Al ((Aq l).take (n-1)),Ap l+n+(if Ar a=true\/5<=Ap a then 1 else Ap a),Ar a,true⟩
theorem Vi (l:List UInt8)(a:Bh (Aq l)=0\/Fa (Aq l) (Bh (Aq l))=false):Ae l=⟨0,0,0,false,false⟩:=by
 unfold Ae;rw[if_pos a]
theorem Ve (l:List UInt8)(a:¬(Bh (Aq l)=0\/Fa (Aq l) (Bh (Aq l))=false)):Ae l=⟨(Aq l).getD (Bh (Aq l)-1) 0,Al ((Aq l).take (Bh (Aq l)-1)),Ap l+Bh (Aq l)+(if Ar ((Aq l).drop (Bh (Aq l)))=true\/5<=Ap ((Aq l).drop (Bh (Aq l)))then 1 else Ap ((Aq l).drop (Bh (Aq l)))),Ar ((Aq l).drop (Bh (Aq l))),true⟩:=by
 unfold Ae;rw[if_neg a]
end Go.Proofs.YtlojgpkajkedeaaGreatDoor.S
namespace Go.Proofs.YtlojgpkajkedeaaGreatDoor.S
open Go
def Hw (l:List UInt8):Bool:=
 Ar l||decide (0<Ez l)||Ea l||decide (0<En l)||Cz l||(Bp l).ok||((Ae l).ok&&(!(Ae l).empty&&((Ae l).Al == -1||(Ae l).Al == 1)))
inductive Ac where
 |at_ (line:Int) (kind:Int) (n:Int) (info text:List UInt8) (Ai:Bool) (Ab:List Ac)
abbrev Ac.mk (kind:Int)(n:Int)(info text:List UInt8)(Ai:Bool)(Ab:List Ac):Ac:=.at_ 0 kind n info text Ai Ab
def Ac.line:Ac->Int | .at_ z _ _ _ _ _ _=>z
def Ac.kind:Ac->Int | .at_ _ k _ _ _ _ _=>k
def Ac.n:Ac->Int | .at_ _ _ n _ _ _ _=>n
def Ac.info:Ac->List UInt8 | .at_ _ _ _ i _ _ _=>i
def Ac.text:Ac->List UInt8 | .at_ _ _ _ _ t _ _=>t
def Ac.Ai:Ac->Bool | .at_ _ _ _ _ _ l _=>l
def Ac.Ab:Ac->List Ac | .at_ _ _ _ _ _ _ k=>k
def Ac.put (z:Int):Ac->Ac | .at_ _ k n i t l ks=>.at_ z k n i t l ks
theorem Ac.AP (z:Int)(b:Ac):(b.put z).Ab=b.Ab:=by cases b;rfl
theorem Ac.Vq (z:Int)(b:Ac):(b.put z).kind=b.kind:=by cases b;rfl
theorem Ac.ED (z:Int)(b:Ac):(b.put z).n=b.n:=by cases b;rfl
theorem Ac.Zj (z:Int)(b:Ac):(b.put z).info=b.info:=by cases b;rfl
theorem Ac.EI (z:Int)(b:Ac):(b.put z).text=b.text:=by cases b;rfl
theorem Ac.EF (z:Int)(b:Ac):(b.put z).Ai=b.Ai:=by cases b;rfl
theorem Ac.DL (z:Int)(b:Ac):(b.put z).line=z:=by cases b;rfl
def Hy (d:List (List UInt8)):List UInt8:=(d.map (λa=>a.drop 4++[10])).flatten
def Js (row:List (List UInt8)):Ac×Nat:=(.mk 3 0 [] (Hy (row.take (Da 4 row))) false [],Da 4 row)
def Ev (c:UInt8)(a:Nat):List (List UInt8)->Nat
 |[]=>0
 |x::d=>if Jg c a x=true then 0 else Ev c a d+1
def Ef (d:Nat)(f:List (List UInt8)):List UInt8:=(f.map (λa=>a.drop (min d (Ap a))++[10])).flatten
def Km (a:Fence)(row:List (List UInt8)):Ac×Nat:=
 (.mk 3 0 a.info (Ef a.ind (row.tail.take (Ev a.mark a.width row.tail))) false [],min (Ev a.mark a.width row.tail+1+1) row.length)
def Dw:List (List UInt8)->Nat
 |[]=>0
 |x::a=>if Hw x=true then 0 else Dw a+1
def Df:List (List UInt8)->List UInt8
 |[]=>[]
 |[x]=>x.drop (Ap x)
 |x::d::a=>x.drop (Ap x)++10::Df (d::a)
def Cr (row:List (List UInt8)):Ac×Nat:=
 let size:=Dw row.tail+1
 let text:=Lib.trimRightB (Df (row.take size)) 32
 match row[size]? with
 |none=>(.mk 1 0 [] text false [],size)
 |some a=>if 0<Ez a then (.mk 2 (Ez a) [] text false [],size+1)else (.mk 1 0 [] text false [],size)
def Ay (m:Mark)(row:List (List UInt8)):List (List UInt8):=
 if m.empty=true/\(row[1]?.map Ar)=some true then [[]]else (row.take (Da m.Ao row)).map (λa=>a.drop m.Ao)
def Cj (kind:UInt8)(row:List (List UInt8)):Mark:=
 match row with
 |[]=>⟨0,0,0,false,false⟩
 |l::_=>if Ea l=true then ⟨0,0,0,false,false⟩else { Ae l with ok:=(Ae l).ok&&decide ((Ae l).kind=kind) }
def Bn:List (List UInt8)->List (List UInt8)
 |[]=>[]
 |x::a=>if Cz x=true then Kl x::Bn a else []
def Bt (h:List (List UInt8)->List Ac×Bool)(kind:UInt8)(d:Nat):Nat->Mark->List (List UInt8)->List Ac×Bool×Nat
 |0,_,_=>([],false,0)
 |f+1,j,row=>
  let own:=Ay j row
  let (Ab,parted):=h own
  let g:=Ac.at_ ((d-row.length:Nat):Int) 7 0 [] [] false Ab
  let a:=Az (row.drop own.length)
  let next:=Cj kind (row.drop (own.length+a))
  if next.ok=true then
   let (more,Ai,size):=Bt h kind d f next (row.drop (own.length+a))
   (g::more,parted||decide (0<a)||Ai,own.length+a+size)
  else ([g],parted,own.length)
def G9 (a:List (List UInt8)->List Ac×Bool)(m:Mark)(row:List (List UInt8)):Ac×Nat:=
 let (items,Ai,size):=Bt a m.kind row.length row.length m row
 (.mk 6 m.Al [] [] Ai items,size)
def A8 (a:List (List UInt8)->List Ac×Bool)(row:List (List UInt8)):Ac×Nat:=
 match row with
 |[]=>(.mk 0 0 [] [] false [],1)
 |first::_=>
  if 4<=Ap first then Js row
  else if Ea first=true then (.mk 4 0 [] [] false [],1)
  else if 0<En first then (.mk 2 (En first) [] (Fp first) false [],1)
  else if (Bp first).ok=true then Km (Bp first) row
  else if Cz first=true then (.mk 5 0 [] [] false (a (Bn row)).1,(Bn row).length)
  else if (Ae first).ok=true then G9 a (Ae first) row
  else Cr row
def rowFrom (g:List (List UInt8)->List Ac×Bool)(a:Nat):Nat->List (List UInt8)->List Ac×Bool
 |0,_=>([],false)
 |f+1,row=>
  if row=[]then ([],false) else
  let (b,size):=A8 g row
  let d:=Az (row.drop size)
  let rest:=row.drop (size+d)
  let (more,parted):=rowFrom g a f rest
  (b.put ((a-row.length:Nat):Int)::more,(decide (0<d)&&!rest.isEmpty)||parted)
def Ag:Nat->List (List UInt8)->List Ac×Bool
 |0,_=>([],false)
 |d+1,row=>rowFrom (Ag d) row.length row.length (row.drop (Az row))
end Go.Proofs.YtlojgpkajkedeaaGreatDoor.S
namespace Go.Proofs.YtlojgpkajkedeaaGreatDoor.S
open Go
theorem YA (c:UInt8)(w:Nat)(l:List (List UInt8)):Ev c w l<=l.length:=by
 induction l with
 |nil=>simp[Ev]
 |cons f d a=>simp only[Ev];split<;>simp<;>omega
theorem zg5 (l:List (List UInt8)):Dw l<=l.length:=by
 induction l with
 |nil=>simp[Dw]
 |cons f d a=>simp only[Dw];split<;>simp<;>omega
theorem zim (l:List (List UInt8)):(Bn l).length<=l.length:=by
 induction l with
 |nil=>simp[Bn]
 |cons f d a=>simp only[Bn];split<;>simp<;>omega
theorem Ww (m:Mark)(row:List (List UInt8))(a:0<row.length):1<=(Ay m row).length/\(Ay m row).length<=row.length:=by
 unfold Ay;split;·simp;omega
 have d:=Ti m.Ao row;have f:=P9 m.Ao row a;rw[List.length_map,Ql];omega
theorem Zq (kind:UInt8)(row:List (List UInt8))(a:(Cj kind row).ok=true):0<row.length:=by
 cases row with
 |nil=>simp[Cj]at a
 |cons f d=>simp
theorem Kv (a:List (List UInt8)->List Ac×Bool)(kind:UInt8)(d f:Nat)(m:Mark)(row:List (List UInt8)):Bt a kind d (f+1) m row =
   if (Cj kind (row.drop ((Ay m row).length+Az (row.drop (Ay m row).length)))).ok=true then
    (Ac.at_ ((d-row.length:Nat):Int) 7 0 [] [] false (a (Ay m row)).1::(Bt a kind d f (Cj kind (row.drop ((Ay m row).length+Az (row.drop (Ay m row).length)))) (row.drop ((Ay m row).length+Az (row.drop (Ay m row).length)))).1,
     (a (Ay m row)).2||decide (0<Az (row.drop (Ay m row).length))||(Bt a kind d f (Cj kind (row.drop ((Ay m row).length+Az (row.drop (Ay m row).length)))) (row.drop ((Ay m row).length+Az (row.drop (Ay m row).length)))).2.1,
     (Ay m row).length+Az (row.drop (Ay m row).length)+(Bt a kind d f (Cj kind (row.drop ((Ay m row).length+Az (row.drop (Ay m row).length)))) (row.drop ((Ay m row).length+Az (row.drop (Ay m row).length)))).2.2)
   else ([Ac.at_ ((d-row.length:Nat):Int) 7 0 [] [] false (a (Ay m row)).1],(a (Ay m row)).2,(Ay m row).length):=rfl
theorem Zf (g:List (List UInt8)->List Ac×Bool)(kind:UInt8)(d a:Nat)(m:Mark)(row:List (List UInt8))(h:0<row.length)(o:row.length<=a):1<=(Bt g kind d a m row).2.2/\(Bt g kind d a m row).2.2<=row.length:=by
 induction a generalizing m row with
 |zero=>omega
 |succ a l=>
  have p:=Ww m row h;have j:=Ru (row.drop (Ay m row).length);rw[Qf]at j;rw[Kv];split
  ·rename_i k;have f:=Zq _ _ k;rw[Qf]at f;have:=l (Cj kind (row.drop ((Ay m row).length+Az (row.drop (Ay m row).length)))) (row.drop ((Ay m row).length+Az (row.drop (Ay m row).length))) (by rw[Qf];exact f) (by rw[Qf];omega);rw[Qf]at this;simp only[];omega
  simp only[];omega
theorem Lp (a:List (List UInt8)->List Ac×Bool)(m:Mark)(row:List (List UInt8)):G9 a m row=(.mk 6 m.Al [] [] (Bt a m.kind row.length row.length m row).2.1 (Bt a m.kind row.length row.length m row).1,(Bt a m.kind row.length row.length m row).2.2):=rfl
theorem Tk (d:List (List UInt8)->List Ac×Bool)(a:List UInt8)(r:List (List UInt8)):1<=(A8 d (a::r)).2/\(A8 d (a::r)).2<=(a::r).length:=by
 unfold A8;simp only[];split
 ·exact⟨Ti _ _,P9 _ _ Y⟩
 split
 ·simp
 split
 ·simp
 split
 ·simp only[Km,List.tail_cons,Qd];omega
 split
 ·rename_i f;have g:(Bn (a::r)).length=(Bn r).length+1:=by simp[Bn,f]
  have j:=zim r;simp only[g,Qd];omega
 split
 ·rw[Lp];exact Zf d (Ae a).kind (a::r).length (a::r).length (Ae a) (a::r) Y (Qc _)
 have l:=zg5 r;simp only[Cr,List.tail_cons];split
 ·simp only[Qd];omega
 rename_i m h;have k:=(Qb.1 h).1;split<;>simp only[Qd]at *<;>omega
theorem K6 (f:List (List UInt8)->List Ac×Bool)(d a:Nat):rowFrom f d a []=([],false):=by
 cases a<;>simp[rowFrom]
theorem Mf (a:List (List UInt8)->List Ac×Bool)(d f:Nat)(row:List (List UInt8))(g:row≠[]):rowFrom a d (f+1) row=((A8 a row).1.put ((d-row.length:Nat):Int)::(rowFrom a d f (row.drop ((A8 a row).2+Az (row.drop (A8 a row).2)))).1,
   (decide (0<Az (row.drop (A8 a row).2))&&!(row.drop ((A8 a row).2+Az (row.drop (A8 a row).2))).isEmpty)||(rowFrom a d f (row.drop ((A8 a row).2+Az (row.drop (A8 a row).2)))).2):=by
 simp only[rowFrom,if_neg g]
end Go.Proofs.YtlojgpkajkedeaaGreatDoor.S
namespace Go.Proofs.YtlojgpkajkedeaaGreatDoor.S
open Go
def nl:List UInt8->List (List UInt8)
 |[]=>[[]]
 |b::a=>if b=10 then []::nl a else match nl a with
  |p::d=>(b::p)::d
  |[]=>[[b]]
theorem IK (l:List UInt8):(nl l).length=l.count 10+1:=by
 induction l with
 |nil=>rfl
 |cons b l a=>
  simp only[nl];split;·rename_i d;subst d;simp[a]
  rename_i d;cases f:nl l with
  |nil=>rw[f]at a;simp at a
  |cons g h=>rw[f]at a;simp[d];simpa using a
theorem DN (l:List UInt8)(a:l.count 10=0):nl l=[l]:=by
 induction l with
 |nil=>rfl
 |cons b l g=>
  have d:¬b=10:=by intro e;subst e;simp at a
  have f:l.count 10=0:=by rw[List.count_cons]at a;omega
  simp only[nl,if_neg d,g f]
theorem zbl (b:UInt8)(l:List UInt8)(a:¬b=10):Lib.indexByte (b::l) 10=if Lib.indexByte l 10 == -1 then -1 else Lib.indexByte l 10+1:=by
 rw[Lib.indexByte];rw[if_neg (by simpa using a)]
theorem index_none (l:List UInt8):Lib.indexByte l 10 = -1↔l.count 10=0:=by
 have a:=Xm l 10;have d:=Lib.indexByte_ge l 10;rw[List.count_eq_zero];constructor
 ·intro e;exact a.1 Z
 intro e;have:=a.2 e;omega
theorem zg9 (l:List UInt8):Lib.splitK [10] 0 (l.count 10) l=nl l:=by
 induction l with
 |nil=>rfl
 |cons b l f=>
  by_cases a:b=10
  ·subst a;have d:Lib.index ((10:UInt8)::l) [10]=0:=by rw[Lib.index_one,Lib.indexByte];simp
   rw[List.count_cons_self,Lib.splitK,d,if_neg J];simp only[nl,if_true];simp[f]
  rw[List.count_cons_of_ne (by simpa using a)];by_cases g:l.count 10=0
  ·rw[g];simp only[Lib.splitK];rw[DN _ (by rw[List.count_cons_of_ne (by simpa using a)];exact g)]
  obtain⟨h,m⟩:∃h,l.count 10=h+1:=⟨l.count 10-1,Z⟩;have o:¬Lib.indexByte l 10 = -1:=λe=>g ((index_none l).1 e);obtain⟨i,d⟩:∃i:Nat,Lib.indexByte l 10=(i:Int):=⟨(Lib.indexByte l 10).toNat,by have:=Lib.indexByte_ge l 10;omega⟩;rw[m]at f ⊢;have j:Lib.index (b::l) [10]=((i+1:Nat):Int):=by
   rw[Lib.index_one,zbl _ _ a,if_neg (by simpa using o),d];rfl
  have k:Lib.index l [10]=(i:Int):=by rw[Lib.index_one,d]
  rw[Lib.splitK,k,if_neg (by rw[Sqb];omega)]at f;rw[Lib.splitK,j,if_neg (by rw[Sqb];omega)];simp only[nl,if_neg a];rw[<-f];simp
def Aw (l:List UInt8):List (List UInt8):=if l=[]then []else nl (Lib.trimSuffix l [10])
end Go.Proofs.YtlojgpkajkedeaaGreatDoor.S
namespace Go.Proofs.YtlojgpkajkedeaaGreatDoor.S
open Go
theorem zbx (p l:List UInt8)(a:10∉p):nl (p++10::l)=p::nl l:=by
 induction p with
 |nil=>simp[nl]
 |cons b p g=>
  have d:¬b=10:=λe=>a (by simp[e]);have f:10∉p:=λe=>a (by simp[e]);simp only[List.cons_append,nl,if_neg d,g f]
theorem JH (l:List UInt8):∃a,l=Lib.trimSuffix l [10]++a:=by
 unfold Lib.trimSuffix;split
 ·exact⟨l.drop (l.length-1),Y⟩
 exact⟨[],Y⟩
