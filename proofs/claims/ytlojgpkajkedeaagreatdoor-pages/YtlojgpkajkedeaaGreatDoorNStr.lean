import Derived.Lib.Strings
import Derived.Lib.Bytealg
import Derived.Lib.TrimByte
import Derived.Lib.Atoi
import Derived.Lib.AtoiAll
import Derived.Lib.SplitLaws
import Derived.Lib.IndexBytes
set_option maxHeartbeats 16000000
set_option maxRecDepth 100000
namespace Go.Proofs.YtlojgpkajkedeaaGreatDoor
abbrev Qa:=@List.length_append
abbrev Qb:=@List.getElem?_eq_some_iff
abbrev Qc:=@Nat.le_refl
abbrev Qd:=@List.length_cons
abbrev Qe:=@beq_eq_false_iff_ne
abbrev Qf:=@List.length_drop
abbrev Qg:=@List.getElem?_eq_getElem
abbrev Qh:=@Nat.lt_of_lt_of_le
abbrev Qi:=@List.length_nil
abbrev Qj:=@Nat.le_trans
abbrev Qk:=@UInt8.toNat_inj
abbrev Ql:=@List.length_take
abbrev Qm:=@List.drop_eq_getElem_cons
abbrev Qn:=@List.getElem?_drop
abbrev Qo:=@List.mem_cons_of_mem
abbrev Qp:=@List.append_assoc
abbrev Qq:=@Array.getElem?_eq_some_iff
abbrev Qr:=@List.getElem?_eq_none
abbrev Qs:=@List.map_cons
abbrev Qt:=@Nat.zero_le
abbrev Qu:=@List.getElem?_append_right
abbrev Qv:=@List.map_append
abbrev Qw:=@List.drop_eq_nil_of_le
abbrev Qx:=@List.mem_cons_self
abbrev Qy:=@Option.some.inj
abbrev Qz:=@List.take_succ_cons
abbrev Qba:=@List.size_toArray
abbrev Qbb:=@List.drop_drop
abbrev Qbc:=@List.take_append_of_le_length
abbrev Qbd:=@List.getElem?_append_left
abbrev Qbe:=@List.getElem?_take_of_lt
abbrev Qbf:=@List.length_pos_iff
abbrev Qbg:=@List.length_eq_zero_iff
abbrev Qbh:=@List.mem_append
abbrev Qbi:=@List.mem_singleton
abbrev Qbj:=@List.take_of_length_le
abbrev Qbk:=@List.append_nil
abbrev Qbl:=@List.take_length
theorem Qyy {α:Sort _}(a:α):∃ x,a=x:=⟨a,rfl⟩
theorem Qzz {α:Sort _}(a:α):∃ x,x=a:=⟨a,rfl⟩
end Go.Proofs.YtlojgpkajkedeaaGreatDoor
namespace Go.Proofs.YtlojgpkajkedeaaGreatDoor.S
open Go
def B (l:List UInt8):ByteArray:=⟨l.toArray⟩
theorem zav (l:List UInt8):(B l).size=l.length:=by simp[B,ByteArray.size]
theorem zaz (l:List UInt8):(B l).data.toList=l:=by simp[B]
theorem zjv (l:List UInt8):(ByteArray.mk l.toArray).data.toList=l:=by simp
theorem zhb (l:List UInt8):(ByteArray.mk l.toArray).size=l.length:=by simp[ByteArray.size]
theorem zbp (s:ByteArray):B s.data.toList=s:=by cases s;simp[B]
theorem lda (s:ByteArray):s.data.toList.length=s.size:=(Lib.size_eq s).symm
theorem zad (s:ByteArray)(k:Nat)(h:k<s.size):s.data.toList[k]?=some s[k]:=by
 rw[Qg (by rw[lda];exact h)];rfl
def cnt (c:UInt8):List UInt8->Nat
 | []=>0
 | x::r=>if x=c then cnt c r+1 else 0
theorem zd3 (c:UInt8)(l:List UInt8):cnt c l<=l.length:=by
 induction l with
 | nil=>simp[cnt]
 | cons x r ih=>simp only[cnt];split<;>simp<;>omega
theorem z5z (c:UInt8)(l:List UInt8)(k:Nat)(h:∀j,j<k->l[j]?=some c):k<=cnt c l:=by
 induction l generalizing k with
 | nil=>cases k with
  | zero=>simp
  | succ k=>have:=h 0 (by omega);simp at this
 | cons x r ih=>cases k with
  | zero=>simp
  | succ k=>
   have h0:=h 0 (by omega);simp at h0;subst h0;have:=ih k (λj hj=>by have:=h (j+1) (by omega);simpa using this);simp[cnt];omega
theorem zuw (c:UInt8)(l:List UInt8)(k:Nat)(h:∀j,j<k->l[j]?=some c)(he:l[k]?≠some c):cnt c l=k:=by
 induction l generalizing k with
 | nil=>cases k with
  | zero=>simp[cnt]
  | succ k=>have:=h 0 (by omega);simp at this
 | cons x r ih=>cases k with
  | zero=>simp at he;simp[cnt,he]
  | succ k=>
   have h0:=h 0 (by omega);simp at h0;subst h0;have:=ih k (λj hj=>by have:=h (j+1) (by omega);simpa using this) (by simpa using he);simp[cnt,this]
def indent (l:List UInt8):Nat:=cnt 32 l
def blank (l:List UInt8):Bool:=decide (indent l=l.length)
def shallow (l:List UInt8):List UInt8:=if 4<=indent l then [] else l.drop (indent l)
theorem zby (l:List UInt8):indent l<=l.length:=zd3 32 l
theorem zgx (l:List UInt8)(h:4<=indent l):shallow l=[]:=by simp[shallow,h]
theorem zgn (l:List UInt8)(h:¬4<=indent l):shallow l=l.drop (indent l):=by simp[shallow,h]
theorem zk9 (l:List UInt8):(shallow l).length<=l.length:=by
 unfold shallow;split<;>simp
theorem zbf (s:ByteArray)(k:Nat):(s.extract k s.size).data.toList=s.data.toList.drop k:=by
 rw[Lib.extract_data];rw[Qbj];rw[Qf,lda];exact Qc _
theorem zjk (s:ByteArray)(k:Nat):(s.extract 0 k).data.toList=s.data.toList.take k:=by
 rw[Lib.extract_data];simp
def zb7 (l:List UInt8)(k:Nat):Bool:=decide (k=l.length)||decide (l[k]?=some 32)
def zaq (l:List UInt8):Nat:=if 6<cnt 35 (shallow l)\/zb7 (shallow l) (cnt 35 (shallow l))=false then 0 else cnt 35 (shallow l)
def rowOf (l:List UInt8)(c:UInt8):Bool:=decide (0<cnt c l)&&blank (l.drop (cnt c l))
def zab (l:List UInt8):Nat:=if rowOf (shallow l) 61=true then 1 else if rowOf (shallow l) 45=true then 2 else 0
def zcg (c:UInt8)(width:Int)(l:List UInt8):Bool:=decide (width<=(cnt c (shallow l):Int))&&blank ((shallow l).drop (cnt c (shallow l)))
def za6:List (List UInt8)->Nat
 | []=>0
 | x::r=>if blank x=true then za6 r+1 else 0
theorem zev (l:List (List UInt8)):za6 l<=l.length:=by
 induction l with
 | nil=>simp[za6]
 | cons x r ih=>simp only[za6];split<;>simp<;>omega
theorem ze7 (l:List (List UInt8))(k:Nat)(h:∀j,j<k->(l[j]?.map blank)=some true)(he:(l[k]?.map blank)≠some true):za6 l=k:=by
 induction l generalizing k with
 | nil=>cases k with
  | zero=>simp[za6]
  | succ k=>have:=h 0 (by omega);simp at this
 | cons x r ih=>cases k with
  | zero=>simp at he;simp[za6,he]
  | succ k=>
   have h0:=h 0 (by omega);simp at h0;have:=ih k (λj hj=>by have:=h (j+1) (by omega);simpa using this) (by simpa using he);simp[za6,this,h0]
def zb0 (zaa:Int)(size at_:Nat):List (List UInt8)->Nat
 | []=>size
 | x::r=>if blank x=true then zb0 zaa size (at_+1) r
  else if (indent x:Int)<zaa then size else zb0 zaa (at_+1) (at_+1) r
def zax (zaa:Int)(l:List (List UInt8)):Nat:=zb0 zaa 1 1 l.tail
theorem zjr (m:Int)(z k:Nat)(l:List (List UInt8))(h:l.length<=k):zb0 m z k (l.drop k)=z:=by
 rw[Qw h];rfl
theorem zjm (m:Int)(z k:Nat)(l:List (List UInt8))(x:List UInt8)(h:l[k]?=some x):zb0 m z k (l.drop k)=if blank x=true then zb0 m z (k+1) (l.drop (k+1)) else if (indent x:Int)<m then z else zb0 m (k+1) (k+1) (l.drop (k+1)):=by
 obtain⟨hk,hx⟩:=Qb.1 h;rw[Qm hk,hx];rfl
theorem zkw (m:Int)(z k:Nat)(l:List (List UInt8))(h:z<=k):zb0 m z k l<=k+l.length:=by
 induction l generalizing z k with
 | nil=>simp[zb0];exact h
 | cons x r ih=>
  simp only[zb0,Qd];split
  ·have:=ih z (k+1) (by omega);omega
  ·split
   ·omega
   ·have:=ih (k+1) (k+1) (by omega);omega
theorem zkr (m:Int)(z k:Nat)(l:List (List UInt8))(h:z<=k):z<=zb0 m z k l:=by
 induction l generalizing z k with
 | nil=>simp[zb0]
 | cons x r ih=>
  simp only[zb0];split
  ·exact ih z (k+1) (by omega)
  ·split
   ·omega
   ·have:=ih (k+1) (k+1) (by omega);omega
theorem zde (m:Int)(l:List (List UInt8)):1<=zax m l:=zkr m 1 1 _ (by omega)
theorem zdx (m:Int)(l:List (List UInt8))(h:0<l.length):zax m l<=l.length:=by
 have:=zkw m 1 1 l.tail (by omega);rw[List.length_tail] at this;unfold zax;omega
def zbz (l:List UInt8):Bool:=
 match shallow l with
 | []=>false
 | c::r=>(decide (c=42)||decide (c=45)||decide (c=95))&&(decide (3<=(c::r).count c)&&decide ((c::r).count c+(c::r).count 32=(c::r).length))
def zat (l:List UInt8):Bool:=Lib.hasPrefix (shallow l) [62]
def zcv (l:List UInt8):List UInt8:=Lib.trimPrefix ((shallow l).drop 1) [32]
theorem zf0 (l:List UInt8)(c:UInt8):Lib.indexByte l c<0↔c ∉ l:=by
 induction l with
 | nil=>simp[Lib.indexByte]
 | cons b r ih=>
  have hge:=Lib.indexByte_ge r c;unfold Lib.indexByte;by_cases hb:b=c
  ·simp[hb]
  ·have hb':(b == c)=false:=by simp[hb]
   rw[hb',if_neg (by simp)];by_cases hm:Lib.indexByte r c = -1
   ·rw[if_pos (by simp[hm])];have:c ∉ r:=ih.1 (by omega);simp[this,Ne.symm hb]
   ·rw[if_neg (by simp[hm])];have:¬c ∉ r:=λh=>by have:=ih.2 h;omega
    simp at this;simp[this];omega
theorem zm7 (r:ByteArray)(h:0<r.size):r.extract 0 1=⟨#[r[0]]⟩:=by
 rw[<-zbp (r.extract 0 1),zjk];have:r.data.toList.take 1=[r[0]]:=by
  have hg:=zad r 0 h;cases hl:r.data.toList with
  | nil=>rw[hl] at hg;simp at hg
  | cons x t=>rw[hl] at hg;simp at hg;simp[hg]
 rw[this];rfl
theorem zbo (r:ByteArray)(h:0<r.size):¬r.toList=[]:=by
 rw[Lib.toList_data];intro he;have:=lda r;rw[he] at this;simp at this;omega
theorem zb6 (r:ByteArray)(h:0<r.size):r.toList.isEmpty=false:=by
 have:=zbo r h;simpa using this
theorem zg6 (r:ByteArray)(h:r.size=0):r.toList=[]:=by
 rw[Lib.toList_data];apply List.eq_nil_of_length_eq_zero;rw[lda];exact h
theorem zeo (r:ByteArray)(h:r.size=0):r.data.toList=[]:=by
 apply List.eq_nil_of_length_eq_zero;rw[lda];exact h
theorem zfy (r:ByteArray)(h:0<r.size):r.data.toList=r[0]::r.data.toList.tail:=by
 have hg:=zad r 0 h;cases hl:r.data.toList with
 | nil=>rw[hl] at hg;simp at hg
 | cons x t=>rw[hl] at hg;simp at hg;simp[hg]
theorem zx3 (l:List UInt8)(c d:UInt8)(h:c≠d):l.count c+l.count d<=l.length:=by
 induction l with
 | nil=>simp
 | cons x r ih=>
  simp only[List.count_cons,Qd];by_cases h1:x=c
  ·have h2:¬x=d:=λe=>h (h1.symm.trans e);simp[h1,h];omega
  ·simp[h1];split<;>omega
theorem zvq (l:List UInt8)(h:shallow l=[]):zbz l=false:=by unfold zbz;rw[h]
theorem zxb (l:List UInt8)(c:UInt8)(t:List UInt8)(h:shallow l=c::t)(hc:c ∉ [(42:UInt8),45,95]):zbz l=false:=by
 unfold zbz;rw[h];simp at hc;simp[hc]
theorem zvt (l:List UInt8)(c:UInt8)(t:List UInt8)(h:shallow l=c::t)(hc:c∈[(42:UInt8),45,95]):zbz l=(decide (3<=(shallow l).count c)&&decide ((shallow l).count c+(shallow l).count 32=(shallow l).length)):=by
 have:(decide (c=42)||decide (c=45)||decide (c=95))=true:=by
  simp at hc;rcases hc with h|h|h<;>simp[h]
 unfold zbz;rw[h];show ((_&&_)=_);rw[this,Bool.true_and]
def zb3 (l:List UInt8):List UInt8:=Lib.trimB ((shallow l).drop (cnt 35 (shallow l))) 32
def zal (l:List UInt8):List UInt8:=
 if (Lib.trimRightB (zb3 l) 35).isEmpty=true\/Lib.hasSuffix (Lib.trimRightB (zb3 l) 35) [32]=true then Lib.trimRightB (Lib.trimRightB (zb3 l) 35) 32 else zb3 l
theorem zpz (l:List UInt8)(c:UInt8):(Lib.trimLeftB l c).length<=l.length:=by
 unfold Lib.trimLeftB;exact(List.dropWhile_sublist _).length_le
theorem zcm (l:List UInt8)(c:UInt8):(Lib.trimRightB l c).length<=l.length:=by
 unfold Lib.trimRightB;rw[List.length_reverse];have:=(List.dropWhile_sublist (λx=>x == c) (l:=l.reverse)).length_le;rw[List.length_reverse] at this;exact this
theorem zhm (l:List UInt8)(c:UInt8):(Lib.trimB l c).length<=l.length:=Qj (zpz _ _) (zcm _ _)
end Go.Proofs.YtlojgpkajkedeaaGreatDoor.S
namespace Go.Proofs.YtlojgpkajkedeaaGreatDoor.S
open Go
def zg9 (c:UInt8):Bool:=decide (48<=c.toNat)&&decide (c.toNat<=57)
def digs:List UInt8->Nat
 | []=>0
 | x::r=>if zg9 x=true then digs r+1 else 0
theorem z2o (l:List UInt8):digs l<=l.length:=by
 induction l with
 | nil=>simp[digs]
 | cons x r ih=>simp only[digs];split<;>simp<;>omega
theorem zxv (l:List UInt8)(k:Nat)(h:∀j,j<k->(l[j]?.map zg9)=some true)(he:(l[k]?.map zg9)≠some true):digs l=k:=by
 induction l generalizing k with
 | nil=>cases k with
  | zero=>simp[digs]
  | succ k=>have:=h 0 (by omega);simp at this
 | cons x r ih=>cases k with
  | zero=>simp at he;simp[digs,he]
  | succ k=>
   have h0:=h 0 (by omega);simp at h0;have:=ih k (λj hj=>by have:=h (j+1) (by omega);simpa using this) (by simpa using he);simp[digs,this,h0]
theorem zuj (l:List UInt8):∀x∈l.take (digs l),zg9 x=true:=by
 induction l with
 | nil=>simp
 | cons x r ih=>
  simp only[digs];split
  ·rename_i h;simp only[Qz,List.mem_cons];rintro y (rfl|hy)
   ·exact h
   ·exact ih y hy
  ·simp
def zc3 (d:Nat):List UInt8:=if d=0 then [45,43,42] else [46,41]
def za5 (l:List UInt8):Nat:=
 if 6<digs l then 0 else match l[digs l]? with
  | none=>0
  | some c=>if c∈zc3 (digs l) then digs l+1 else 0
theorem zgl (l:List UInt8)(h:6<digs l):za5 l=0:=by simp[za5,h]
theorem zhx (l:List UInt8)(h:digs l=l.length):za5 l=0:=by
 unfold za5;split
 ·rfl
 ·rw[Qr (by omega)]
theorem zin (l:List UInt8)(c:UInt8)(h:l[digs l]?=some c)(hc:c ∉ zc3 (digs l)):za5 l=0:=by
 unfold za5;split
 ·rfl
 ·rw[h];simp[hc]
theorem zi1 (l:List UInt8)(c:UInt8)(h6:¬6<digs l)(h:l[digs l]?=some c)(hc:c∈zc3 (digs l)):za5 l=digs l+1:=by
 unfold za5;rw[if_neg h6,h];simp[hc]
theorem zg5 (l:List UInt8):za5 l<=l.length:=by
 unfold za5;split
 ·omega
 ·cases h:l[digs l]? with
  | none=>simp
  | some c=>
   have:=(Qb.1 h).1;simp only[];split<;>omega
theorem zo9 (l:List UInt8)(h:za5 l≠0):za5 l=digs l+1/\digs l<=6:=by
 unfold za5 at h ⊢;split at h
 ·exact absurd rfl h
 ·rename_i h6;rw[if_neg h6];cases hc:l[digs l]? with
  | none=>rw[hc] at h;exact absurd rfl h
  | some c=>rw[hc] at h;simp only[] at h ⊢;split at h
            ·rename_i hm;rw[if_pos hm];exact⟨rfl,by omega⟩
            ·exact absurd rfl h
def dec (l:List UInt8):Nat:=l.foldl (λa b=>a*10+(b.toNat-48)) 0
def number (l:List UInt8):Int:=if l=[] then -1 else (dec l:Int)
theorem zrm (l:List UInt8)(a:Nat)(h:∀x∈l,zg9 x=true):Lib.decFrom a l=some (l.foldl (λa b=>a*10+(b.toNat-48)) a):=by
 induction l generalizing a with
 | nil=>rfl
 | cons x r ih=>
  have hx:=h x (by simp);simp only[zg9,Bool.and_eq_true,decide_eq_true_eq] at hx;simp only[Lib.decFrom,Lib.digitVal,if_pos hx,List.foldl_cons];exact ih _ (λy hy=>h y (by simp[hy]))
theorem z0s (l:List UInt8)(hne:l≠[])(h:∀x∈l,zg9 x=true):Lib.atoi l=some (dec l:Int):=by
 cases l with
 | nil=>exact absurd rfl hne
 | cons b r=>
  have hx:=h b (by simp);simp only[zg9,Bool.and_eq_true,decide_eq_true_eq] at hx;have h1:(b == 45)=false:=by rw[Qe];intro e;rw[e] at hx;simp at hx
  have h2:(b == 43)=false:=by rw[Qe];intro e;rw[e] at hx;simp at hx
  simp only[Lib.atoi];rw[h1,h2,if_neg (by simp),if_neg (by simp)];unfold Lib.decNat;rw[if_neg (by simp),zrm _ _ h];rfl
def zcj (c:UInt8)(width:Nat)(info:List UInt8):Bool:=decide (3<=width)&&!(decide (c=96)&&decide (96∈info))
structure Fence where
 mark:UInt8
 width:Nat
 ind:Nat
 info:List UInt8
 ok:Bool
def zdj (l:List UInt8)(c:UInt8):List UInt8:=Lib.trimB (l.drop (cnt c l)) 32
def fence (l:List UInt8):Fence:=
 match shallow l with
 | []=>⟨0,0,0,[],false⟩
 | c::t=>if c=96\/c=126 then ⟨c,cnt c (c::t),indent l,zdj (c::t) c,zcj c (cnt c (c::t)) (zdj (c::t) c)⟩ else ⟨0,0,0,[],false⟩
theorem zlc (l:List UInt8)(h:shallow l=[]):fence l=⟨0,0,0,[],false⟩:=by unfold fence;rw[h]
theorem zpb (l:List UInt8)(c:UInt8)(t:List UInt8)(h:shallow l=c::t)(h1:¬c=96)(h2:¬c=126):fence l=⟨0,0,0,[],false⟩:=by
 unfold fence;rw[h];simp[h1,h2]
theorem zj1 (l:List UInt8)(c:UInt8)(t:List UInt8)(h:shallow l=c::t)(h1:c=96\/c=126):fence l=⟨c,cnt c (c::t),indent l,zdj (c::t) c,zcj c (cnt c (c::t)) (zdj (c::t) c)⟩:=by
 unfold fence;rw[h];simp[h1]
structure Mark where
 kind:UInt8
 number:Int
 zaa:Nat
 empty:Bool
 ok:Bool
def item (l:List UInt8):Mark:=
 if za5 (shallow l)=0\/zb7 (shallow l) (za5 (shallow l))=false then ⟨0,0,0,false,false⟩
 else
  let n:=za5 (shallow l)
  let behind:=(shallow l).drop n
  ⟨(shallow l).getD (n-1) 0,number ((shallow l).take (n-1)),indent l+n+(if blank behind=true\/5<=indent behind then 1 else indent behind),blank behind,true⟩
theorem zlu (l:List UInt8)(h:za5 (shallow l)=0\/zb7 (shallow l) (za5 (shallow l))=false):item l=⟨0,0,0,false,false⟩:=by
 unfold item;rw[if_pos h]
theorem zjo (l:List UInt8)(h:¬(za5 (shallow l)=0\/zb7 (shallow l) (za5 (shallow l))=false)):item l=⟨(shallow l).getD (za5 (shallow l)-1) 0,number ((shallow l).take (za5 (shallow l)-1)),indent l+za5 (shallow l)+(if blank ((shallow l).drop (za5 (shallow l)))=true\/5<=indent ((shallow l).drop (za5 (shallow l))) then 1 else indent ((shallow l).drop (za5 (shallow l)))),blank ((shallow l).drop (za5 (shallow l))),true⟩:=by
 unfold item;rw[if_neg h]
end Go.Proofs.YtlojgpkajkedeaaGreatDoor.S
namespace Go.Proofs.YtlojgpkajkedeaaGreatDoor.S
open Go
def zco (l:List UInt8):Bool:=
 blank l||decide (0<zab l)||zbz l||decide (0<zaq l)||zat l||(fence l).ok||((item l).ok&&(!(item l).empty&&((item l).number == -1||(item l).number == 1)))
inductive Blk where
 | at_ (line:Int) (kind:Int) (n:Int) (info text:List UInt8) (loose:Bool) (kids:List Blk)
abbrev Blk.mk (kind:Int)(n:Int)(info text:List UInt8)(loose:Bool)(kids:List Blk):Blk:=.at_ 0 kind n info text loose kids
def Blk.line:Blk->Int | .at_ z _ _ _ _ _ _=>z
def Blk.kind:Blk->Int | .at_ _ k _ _ _ _ _=>k
def Blk.n:Blk->Int | .at_ _ _ n _ _ _ _=>n
def Blk.info:Blk->List UInt8 | .at_ _ _ _ i _ _ _=>i
def Blk.text:Blk->List UInt8 | .at_ _ _ _ _ t _ _=>t
def Blk.loose:Blk->Bool | .at_ _ _ _ _ _ l _=>l
def Blk.kids:Blk->List Blk | .at_ _ _ _ _ _ _ k=>k
def Blk.put (z:Int):Blk->Blk | .at_ _ k n i t l ks=>.at_ z k n i t l ks
theorem Blk.zzp (z:Int)(b:Blk):(b.put z).kids=b.kids:=by cases b;rfl
theorem Blk.zv0 (z:Int)(b:Blk):(b.put z).kind=b.kind:=by cases b;rfl
theorem Blk.z5u (z:Int)(b:Blk):(b.put z).n=b.n:=by cases b;rfl
theorem Blk.z09 (z:Int)(b:Blk):(b.put z).info=b.info:=by cases b;rfl
theorem Blk.z0q (z:Int)(b:Blk):(b.put z).text=b.text:=by cases b;rfl
theorem Blk.zz4 (z:Int)(b:Blk):(b.put z).loose=b.loose:=by cases b;rfl
theorem Blk.z1h (z:Int)(b:Blk):(b.put z).line=z:=by cases b;rfl
def zbn (rows:List (List UInt8)):List UInt8:=(rows.map (λl=>l.drop 4++[10])).flatten
def zb9 (row:List (List UInt8)):Blk × Nat:=(.mk 3 0 [] (zbn (row.take (zax 4 row))) false [],zax 4 row)
def zb2 (c:UInt8)(width:Nat):List (List UInt8)->Nat
 | []=>0
 | x::r=>if zcg c width x=true then 0 else zb2 c width r+1
def zam (ind:Nat)(rows:List (List UInt8)):List UInt8:=(rows.map (λl=>l.drop (min ind (indent l))++[10])).flatten
def zbu (f:Fence)(row:List (List UInt8)):Blk × Nat:=
 (.mk 3 0 f.info (zam f.ind (row.tail.take (zb2 f.mark f.width row.tail))) false [],min (zb2 f.mark f.width row.tail+1+1) row.length)
def zcb:List (List UInt8)->Nat
 | []=>0
 | x::r=>if zco x=true then 0 else zcb r+1
def zaj:List (List UInt8)->List UInt8
 | []=>[]
 | [x]=>x.drop (indent x)
 | x::y::r=>x.drop (indent x)++10::zaj (y::r)
def za8 (row:List (List UInt8)):Blk × Nat:=
 let size:=zcb row.tail+1
 let text:=Lib.trimRightB (zaj (row.take size)) 32
 match row[size]? with
 | none=>(.mk 1 0 [] text false [],size)
 | some l=>if 0<zab l then (.mk 2 (zab l) [] text false [],size+1) else (.mk 1 0 [] text false [],size)
def zah (m:Mark)(row:List (List UInt8)):List (List UInt8):=
 if m.empty=true/\(row[1]?.map blank)=some true then [[]] else (row.take (zax m.zaa row)).map (λl=>l.drop m.zaa)
def zaw (kind:UInt8)(row:List (List UInt8)):Mark:=
 match row with
 | []=>⟨0,0,0,false,false⟩
 | l::_=>if zbz l=true then ⟨0,0,0,false,false⟩ else { item l with ok:=(item l).ok&&decide ((item l).kind=kind) }
def zae:List (List UInt8)->List (List UInt8)
 | []=>[]
 | x::r=>if zat x=true then zcv x::zae r else []
def zau (sub:List (List UInt8)->List Blk × Bool)(kind:UInt8)(Z:Nat):Nat->Mark->List (List UInt8)->List Blk × Bool × Nat
 | 0,_,_=>([],false,0)
 | f+1,m,row=>
  let own:=zah m row
  let (kids,parted):=sub own
  let kid:=Blk.at_ ((Z-row.length:Nat):Int) 7 0 [] [] false kids
  let gap:=za6 (row.drop own.length)
  let next:=zaw kind (row.drop (own.length+gap))
  if next.ok=true then
   let (more,loose,size):=zau sub kind Z f next (row.drop (own.length+gap))
   (kid::more,parted||decide (0<gap)||loose,own.length+gap+size)
  else ([kid],parted,own.length)
def zbh (sub:List (List UInt8)->List Blk × Bool)(m:Mark)(row:List (List UInt8)):Blk × Nat:=
 let (items,loose,size):=zau sub m.kind row.length row.length m row
 (.mk 6 m.number [] [] loose items,size)
def zaf (sub:List (List UInt8)->List Blk × Bool)(row:List (List UInt8)):Blk × Nat:=
 match row with
 | []=>(.mk 0 0 [] [] false [],1)
 | first::_=>
  if 4<=indent first then zb9 row
  else if zbz first=true then (.mk 4 0 [] [] false [],1)
  else if 0<zaq first then (.mk 2 (zaq first) [] (zal first) false [],1)
  else if (fence first).ok=true then zbu (fence first) row
  else if zat first=true then (.mk 5 0 [] [] false (sub (zae row)).1,(zae row).length)
  else if (item first).ok=true then zbh sub (item first) row
  else za8 row
def rowFrom (sub:List (List UInt8)->List Blk × Bool)(Z:Nat):Nat->List (List UInt8)->List Blk × Bool
 | 0,_=>([],false)
 | f+1,row=>
  if row=[] then ([],false) else
  let (b,size):=zaf sub row
  let gap:=za6 (row.drop size)
  let rest:=row.drop (size+gap)
  let (more,parted):=rowFrom sub Z f rest
  (b.put ((Z-row.length:Nat):Int)::more,(decide (0<gap)&&!rest.isEmpty)||parted)
def za2:Nat->List (List UInt8)->List Blk × Bool
 | 0,_=>([],false)
 | d+1,row=>rowFrom (za2 d) row.length row.length (row.drop (za6 row))
end Go.Proofs.YtlojgpkajkedeaaGreatDoor.S
namespace Go.Proofs.YtlojgpkajkedeaaGreatDoor.S
open Go
theorem zpd (c:UInt8)(w:Nat)(l:List (List UInt8)):zb2 c w l<=l.length:=by
 induction l with
 | nil=>simp[zb2]
 | cons x r ih=>simp only[zb2];split<;>simp<;>omega
theorem zvj (l:List (List UInt8)):zcb l<=l.length:=by
 induction l with
 | nil=>simp[zcb]
 | cons x r ih=>simp only[zcb];split<;>simp<;>omega
theorem zsz (l:List (List UInt8)):(zae l).length<=l.length:=by
 induction l with
 | nil=>simp[zae]
 | cons x r ih=>simp only[zae];split<;>simp<;>omega
theorem zo4 (m:Mark)(row:List (List UInt8))(h:0<row.length):1<=(zah m row).length/\(zah m row).length<=row.length:=by
 unfold zah;split
 ·simp;omega
 ·have h1:=zde m.zaa row;have h2:=zdx m.zaa row h;rw[List.length_map,Ql];omega
theorem zmg (kind:UInt8)(row:List (List UInt8))(h:(zaw kind row).ok=true):0<row.length:=by
 cases row with
 | nil=>simp[zaw] at h
 | cons x r=>simp
theorem zdd (sub:List (List UInt8)->List Blk × Bool)(kind:UInt8)(Z f:Nat)(m:Mark)(row:List (List UInt8)):zau sub kind Z (f+1) m row =
   if (zaw kind (row.drop ((zah m row).length+za6 (row.drop (zah m row).length)))).ok=true then
    (Blk.at_ ((Z-row.length:Nat):Int) 7 0 [] [] false (sub (zah m row)).1::(zau sub kind Z f (zaw kind (row.drop ((zah m row).length+za6 (row.drop (zah m row).length)))) (row.drop ((zah m row).length+za6 (row.drop (zah m row).length)))).1,
     (sub (zah m row)).2||decide (0<za6 (row.drop (zah m row).length))||(zau sub kind Z f (zaw kind (row.drop ((zah m row).length+za6 (row.drop (zah m row).length)))) (row.drop ((zah m row).length+za6 (row.drop (zah m row).length)))).2.1,
     (zah m row).length+za6 (row.drop (zah m row).length)+(zau sub kind Z f (zaw kind (row.drop ((zah m row).length+za6 (row.drop (zah m row).length)))) (row.drop ((zah m row).length+za6 (row.drop (zah m row).length)))).2.2)
   else ([Blk.at_ ((Z-row.length:Nat):Int) 7 0 [] [] false (sub (zah m row)).1],(sub (zah m row)).2,(zah m row).length):=rfl
theorem zpn (sub:List (List UInt8)->List Blk × Bool)(kind:UInt8)(Z f:Nat)(m:Mark)(row:List (List UInt8))(h:0<row.length)(hf:row.length<=f):1<=(zau sub kind Z f m row).2.2/\(zau sub kind Z f m row).2.2<=row.length:=by
 induction f generalizing m row with
 | zero=>omega
 | succ f ih=>
  have ho:=zo4 m row h;have hg:=zev (row.drop (zah m row).length);rw[Qf] at hg;rw[zdd];split
  ·rename_i hn;have hp:=zmg _ _ hn;rw[Qf] at hp;have:=ih (zaw kind (row.drop ((zah m row).length+za6 (row.drop (zah m row).length)))) (row.drop ((zah m row).length+za6 (row.drop (zah m row).length))) (by rw[Qf];exact hp) (by rw[Qf];omega);rw[Qf] at this;simp only[];omega
  ·simp only[];omega
theorem zf5 (sub:List (List UInt8)->List Blk × Bool)(m:Mark)(row:List (List UInt8)):zbh sub m row=(.mk 6 m.number [] [] (zau sub m.kind row.length row.length m row).2.1 (zau sub m.kind row.length row.length m row).1,(zau sub m.kind row.length row.length m row).2.2):=rfl
theorem zfk (sub:List (List UInt8)->List Blk × Bool)(x:List UInt8)(r:List (List UInt8)):1<=(zaf sub (x::r)).2/\(zaf sub (x::r)).2<=(x::r).length:=by
 unfold zaf;simp only[];split
 ·exact⟨zde _ _,zdx _ _ (by simp)⟩
 ·split
  ·simp
  ·split
   ·simp
   ·split
    ·simp only[zbu,List.tail_cons,Qd];omega
    ·split
     ·rename_i h;have h1:(zae (x::r)).length=(zae r).length+1:=(by simp[zae,h]);have h2:=zsz r;simp only[h1,Qd];omega
     ·split
      ·rw[zf5];exact zpn sub (item x).kind (x::r).length (x::r).length (item x) (x::r) (by simp) (Qc _)
      ·have hp:=zvj r;simp only[za8,List.tail_cons];split
       ·simp only[Qd];omega
       ·rename_i l hl;have hlt:=(Qb.1 hl).1;split<;>simp only[Qd] at *<;>omega
theorem zee (sub:List (List UInt8)->List Blk × Bool)(Z f:Nat):rowFrom sub Z f []=([],false):=by
 cases f<;>simp[rowFrom]
theorem zek (sub:List (List UInt8)->List Blk × Bool)(Z f:Nat)(row:List (List UInt8))(h:row≠[]):rowFrom sub Z (f+1) row=((zaf sub row).1.put ((Z-row.length:Nat):Int)::(rowFrom sub Z f (row.drop ((zaf sub row).2+za6 (row.drop (zaf sub row).2)))).1,
   (decide (0<za6 (row.drop (zaf sub row).2))&&!(row.drop ((zaf sub row).2+za6 (row.drop (zaf sub row).2))).isEmpty)||(rowFrom sub Z f (row.drop ((zaf sub row).2+za6 (row.drop (zaf sub row).2)))).2):=by
 simp only[rowFrom,if_neg h]
end Go.Proofs.YtlojgpkajkedeaaGreatDoor.S
namespace Go.Proofs.YtlojgpkajkedeaaGreatDoor.S
open Go
def nl:List UInt8->List (List UInt8)
 | []=>[[]]
 | b::l=>if b=10 then []::nl l else match nl l with
  | p::r=>(b::p)::r
  | []=>[[b]]
theorem zlt (l:List UInt8):(nl l).length=l.count 10+1:=by
 induction l with
 | nil=>rfl
 | cons b l ih=>
  simp only[nl];split
  ·rename_i h;subst h;simp[ih]
  ·rename_i h;cases hn:nl l with
   | nil=>rw[hn] at ih;simp at ih
   | cons p r=>rw[hn] at ih;simp[h];simpa using ih
theorem zta (l:List UInt8)(h:l.count 10=0):nl l=[l]:=by
 induction l with
 | nil=>rfl
 | cons b l ih=>
  have hb:¬b=10:=by intro e;subst e;simp at h
  have hl:l.count 10=0:=by rw[List.count_cons] at h;omega
  simp only[nl,if_neg hb,ih hl]
theorem zwg (b:UInt8)(l:List UInt8)(h:¬b=10):Lib.indexByte (b::l) 10=if Lib.indexByte l 10 == -1 then -1 else Lib.indexByte l 10+1:=by
 rw[Lib.indexByte];rw[if_neg (by simpa using h)]
theorem index_none (l:List UInt8):Lib.indexByte l 10 = -1↔l.count 10=0:=by
 have h:=zf0 l 10;have hg:=Lib.indexByte_ge l 10;rw[List.count_eq_zero];constructor
 ·intro e;exact h.1 (by omega)
 ·intro e;have:=h.2 e;omega
theorem zyx (l:List UInt8):Lib.splitK [10] 0 (l.count 10) l=nl l:=by
 induction l with
 | nil=>rfl
 | cons b l ih=>
  by_cases hb:b=10
  ·subst hb;have hi:Lib.index ((10:UInt8)::l) [10]=0:=by rw[Lib.index_one,Lib.indexByte];simp
   rw[List.count_cons_self,Lib.splitK,hi,if_neg (by decide)];simp only[nl,if_true];simp[ih]
  ·rw[List.count_cons_of_ne (by simpa using hb)];by_cases hc:l.count 10=0
   ·rw[hc];simp only[Lib.splitK];rw[zta _ (by rw[List.count_cons_of_ne (by simpa using hb)];exact hc)]
   ·obtain⟨k,hk⟩:∃k,l.count 10=k+1:=⟨l.count 10-1,by omega⟩;have hne:¬Lib.indexByte l 10 = -1:=λe=>hc ((index_none l).1 e);obtain⟨i,hi⟩:∃i:Nat,Lib.indexByte l 10=(i:Int):=⟨(Lib.indexByte l 10).toNat,by have:=Lib.indexByte_ge l 10;omega⟩;rw[hk] at ih ⊢;have e1:Lib.index (b::l) [10]=((i+1:Nat):Int):=by
     rw[Lib.index_one,zwg _ _ hb,if_neg (by simpa using hne),hi];rfl
    have e2:Lib.index l [10]=(i:Int):=(by rw[Lib.index_one,hi]);rw[Lib.splitK,e2,if_neg (by rw[beq_iff_eq];omega)] at ih;rw[Lib.splitK,e1,if_neg (by rw[beq_iff_eq];omega)];simp only[nl,if_neg hb];rw[<-ih];simp
def lines (l:List UInt8):List (List UInt8):=if l=[] then [] else nl (Lib.trimSuffix l [10])
end Go.Proofs.YtlojgpkajkedeaaGreatDoor.S
namespace Go.Proofs.YtlojgpkajkedeaaGreatDoor.S
open Go
theorem z3e (p l:List UInt8)(h:10 ∉ p):nl (p++10::l)=p::nl l:=by
 induction p with
 | nil=>simp[nl]
 | cons b p ih=>
  have hb:¬b=10:=λe=>h (by simp[e]);have hp:10 ∉ p:=λe=>h (by simp[e]);simp only[List.cons_append,nl,if_neg hb,ih hp]
theorem zhw (l:List UInt8):∃t,l=Lib.trimSuffix l [10]++t:=by
 unfold Lib.trimSuffix;split
 ·exact⟨l.drop (l.length-1),by simp⟩
 ·exact⟨[],by simp⟩
end Go.Proofs.YtlojgpkajkedeaaGreatDoor.S
