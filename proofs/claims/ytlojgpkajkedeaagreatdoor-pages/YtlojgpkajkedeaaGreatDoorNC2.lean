import Derived.Test.YtlojgpkajkedeaaGreatDoorNStr
import Derived.Test.YtlojgpkajkedeaaGreatDoorNE1
import Derived.Test.YtlojgpkajkedeaaGreatDoorNW14
import Derived.Test.YtlojgpkajkedeaaGreatDoorNW17
import Derived.Deep.QuietTactic
import Derived.BigQuiet
import Derived.Deep.RegionHeld3
import Derived.Deep.AppendLies
set_option maxHeartbeats 16000000
set_option maxRecDepth 100000
namespace Go.Proofs.YtlojgpkajkedeaaGreatDoor
open Go.RowKit Go.Proofs.Tryz
theorem below_grown {w w':World}(hb:Below w.heap.size w w'):w.grownBy w' none:=⟨hb.os,hb.tape,hb.output,hb.size,λk hk _=>hb.block k hk⟩
theorem zed {w w1 w2:World}{own own1:Option Nat}(h1:w.grownBy w1 own)(h2:w1.grownBy w2 own1)(h:∀g,own1=some g->own=some g\/w.heap.size<=g):w.grownBy w2 own:=
 ⟨h2.os.trans h1.os,h2.tape.trans h1.tape,h2.output.trans h1.output,Qj h1.size h2.size,λk hk hne=>by
  rw[h2.block k (Qh hk h1.size) (λe=>by rcases h k e.symm with h3|h3;exact hne h3.symm;omega),h1.block k hk hne]⟩
theorem zmx {w w':World}(hb:Below w.heap.size w w')(own:Option Nat):w.grownBy w' own:=⟨hb.os,hb.tape,hb.output,hb.size,λk hk _=>hb.block k hk⟩
def zwp (loose:Bool):ByteArray:=if loose then ⟨#[108,111,111,115,101]⟩ else ⟨#[116,105,103,104,116]⟩
def textOf (k:Int)(text:ByteArray)(loose:Bool):ByteArray:=if k=3 then text else if k=6 then zwp loose else ⟨#[]⟩
theorem Env.z4x {B:Nat}{w w':World}(h:Env w)(h1:3<B)(h2:0<B)(hb:Below B w w'):Env w':=by
 obtain⟨⟨ev,e1,e2⟩,⟨m,e3⟩,e4,e5⟩:=h;have:=hb.size;exact⟨⟨ev,(hb.cell (p:=⟨3,0,none⟩) h1).trans e1,e2⟩,⟨m,(hb.cell (p:=⟨0,0,none⟩) h2).trans e3⟩,by omega,by omega⟩
theorem zrc (d:Nat):zpq d:=by
 induction d with
 | zero=>intro b o cap ss w _ _ _ _ hd;omega
 | succ d ih=>exact zsx d ih (zpw d ih)
namespace S
theorem zws (p r:List UInt8)(h:10 ∉ p):lines (p++10::r)=p::lines r:=by
 unfold lines;rw[if_neg (by simp)];by_cases hr:r=[]
 ·subst hr;rw[if_pos rfl];have:Lib.trimSuffix (p++[10]) [10]=p:=by
   unfold Lib.trimSuffix;rw[if_pos (by unfold Lib.hasSuffix;simp)];simp
  rw[this,zta p (List.count_eq_zero.2 h)]
 ·rw[if_neg hr];have:Lib.trimSuffix (p++10::r) [10]=p++10::Lib.trimSuffix r [10]:=by
   unfold Lib.trimSuffix;by_cases hs:Lib.hasSuffix r [10]=true
   ·have hs':Lib.hasSuffix (p++10::r) [10]=true:=by
     unfold Lib.hasSuffix at *;simp only[List.isSuffixOf_iff_suffix] at *;exact hs.trans ((List.suffix_cons 10 r).trans (List.suffix_append p _))
    rw[if_pos hs,if_pos hs'];have hl:0<r.length:=Qbf.2 hr;simp only[Qa,Qd,Qi];rw[show p.length+(r.length+1)-(0+1)=p.length+r.length from by omega,List.take_append,Qbj (by omega)];congr 1
    rw[show p.length+r.length-p.length=(r.length-(0+1))+1 from by omega,Qz]
   ·have hs':¬Lib.hasSuffix (p++10::r) [10]=true:=by
     unfold Lib.hasSuffix at *;simp only[List.isSuffixOf_iff_suffix] at *;rintro⟨t,ht⟩;apply hs
     obtain⟨r',b,rfl⟩:∃r' b,r=r' ++ [b]:=⟨r.dropLast,r.getLast hr,(List.dropLast_concat_getLast hr).symm⟩;have:t++[10]=(p++10::r')++[b]:=(by rw[ht];simp);have h2:=(List.append_inj' this rfl).2;simp at h2;subst h2;exact List.suffix_append _ _
    rw[if_neg hs,if_neg hs']
  rw[this,z3e p _ h]
theorem ztx (p:List UInt8)(h:10 ∉ p)(hne:p≠[]):lines p=[p]:=by
 unfold lines;rw[if_neg hne];have:Lib.trimSuffix p [10]=p:=by
  unfold Lib.trimSuffix;rw[if_neg];unfold Lib.hasSuffix;simp only[List.isSuffixOf_iff_suffix];rintro⟨t,ht⟩;apply h;rw[<-ht];simp
 rw[this,zta p (List.count_eq_zero.2 h)]
theorem extract_data (s:ByteArray)(f k:Nat):(s.extract f k).data.toList=(s.data.toList.drop f).take (k-f):=by
 rw[Lib.extract_data]
theorem zzm (l:List UInt8)(f k:Nat)(hf:f<=k)(hk:l[k]?=some 10)(h:10 ∉ (l.drop f).take (k-f)):lines (l.drop f)=(l.drop f).take (k-f)::lines (l.drop (k+1)):=by
 obtain⟨hl,hx⟩:=Qb.1 hk;have e:l.drop f=(l.drop f).take (k-f)++10::l.drop (k+1):=by
  conv=>lhs;rw[<-List.take_append_drop (k-f) (l.drop f)]
  rw[Qbb,show f+(k-f)=k from by omega,Qm hl,hx]
 conv=>lhs;rw[e]
 exact zws _ _ h
theorem z4n (l:List UInt8)(f k:Nat)(hf:f<=k)(x:UInt8)(hk:l[k]?=some x)(hx:x≠10)(h:10 ∉ (l.drop f).take (k-f)):10 ∉ (l.drop f).take (k+1-f):=by
 rw[show k+1-f=(k-f)+1 from by omega,List.take_add_one,Qn,show f+(k-f)=k from by omega,hk];simp only[Option.toList,Qbh,Qbi,not_or];exact⟨h,λe=>hx e.symm⟩
end S
end Go.Proofs.YtlojgpkajkedeaaGreatDoor
