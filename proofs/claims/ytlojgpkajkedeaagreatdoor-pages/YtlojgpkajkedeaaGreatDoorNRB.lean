import Derived.Test.YtlojgpkajkedeaaGreatDoorNRA
import Derived.Deep.DeepCutAuto
import Derived.Deep.RegionHeld3
set_option maxHeartbeats 16000000
set_option maxRecDepth 100000
namespace Go.Proofs.YtlojgpkajkedeaaGreatDoor
open Go.RowKit Go.Proofs.Tryz
namespace S
theorem zgq (l:List UInt8)(c:UInt8)(t:List UInt8)(h:shallow l=c::t):l.drop (indent l)=c::t/\indent l<=3/\c≠32:=by
 by_cases h4:4<=indent l
 ·rw[zgx l h4] at h;cases h
 ·rw[zgn l h4] at h;refine⟨h,by omega,?_⟩;intro e;subst e;have h1:cnt 32 (l.drop (cnt 32 l))=0:=by
   clear h h4;induction l with
   | nil=>rfl
   | cons x r ih=>
    by_cases hx:x=32
    ·subst hx;simpa [cnt] using ih
    ·simp[cnt,hx]
  rw[show indent l=cnt 32 l from rfl] at h;rw[h] at h1;simp[cnt] at h1
theorem zu7 (l:List UInt8)(c:UInt8)(hc:c≠32):l.count c+l.count 32=l.length↔∀x∈l,x=c\/x=32:=by
 induction l with
 | nil=>simp
 | cons x r ih=>
  have h1:=List.count_le_length (a:=c) (l:=r);have h2:r.count c+r.count 32<=r.length:=by
   clear ih;induction r with
   | nil=>simp
   | cons y t ih2=>
    have:=ih2 (List.count_le_length);simp only[List.count_cons,Qd];by_cases e1:y=c
    ·subst e1;have:(y == 32)=false:=by simpa using hc
     simp[this];omega
    ·have:(y == c)=false:=(by simpa using e1);simp[this];split<;>omega
  simp only[List.count_cons,Qd,List.mem_cons,forall_eq_or_imp];by_cases e1:x=c
  ·subst e1;have:(x == 32)=false:=by simpa using hc
   simp[this];rw[<-ih];omega
  ·by_cases e2:x=32
   ·subst e2;have:((32:UInt8) == c)=false:=(by simpa using e1);simp[this];rw[<-ih];omega
   ·have k1:(x == c)=false:=(by simpa using e1);have k2:(x == 32)=false:=(by simpa using e2);simp[k1,k2,e1,e2];omega
end S
theorem zmj (s:ByteArray)(w:World)(hs:s.size<=1000000):Calls prog 89 #[.string s] w λe w'=>e=.returned (.bool (S.zbz s.data.toList))/\w'=w:=by
 have hI:=hid (ztv s w hs);have hR:=hid (zfu s w hs);cases hsh:S.shallow s.data.toList with
 | nil=>
  have hE:Hid (S.zbz s.data.toList=false):=hid (by unfold S.zbz;rw[hsh]);rw[hsh] at hI;rw[hE.out];clear hsh;go_enter func89,ntmps89;go_wp2_with fail
  refine hI.out.mono ?_;rintro e w'⟨rfl,rfl⟩;go_wp2;go_ret;exact⟨rfl,rfl⟩
 | cons c t=>
  have hsc:=S.zgq _ c t hsh;rw[hsc.1] at hR;rw[hsh] at hI;have hlen:(c::t).length<=s.size:=by rw[<-hsc.1,Qf,S.lda];omega
  obtain⟨r,hr⟩:=Qyy (S.B (c::t));rw[hr] at hR;have hrd:r.data.toList=c::t:=by rw[<-hr,S.zaz]
  have hrs:r.size=t.length+1:=by rw[<-hr,S.zav];rfl
  have hr0:r.data.toList[0]?=some c:=by rw[hrd];rfl
  have hz:0<r.size:=by omega
  have hg0:r[0]=c:=by have:=S.zad r 0 hz;rw[hr0] at this;exact(Qy this).symm
  have hcn:c≠32:=hsc.2.2;simp only[Qd] at hlen;obtain⟨R,fq⟩:=Qyy (S.zbz s.data.toList);have dh:R=((decide (c=42)||decide (c=45)||decide (c=95))&&(decide (3<=(c::t).count c)&&decide ((c::t).count c+(c::t).count 32=(c::t).length))):=by rw[<-fq];unfold S.zbz;rw[hsh]
  rw[fq];have bg:=hid dh;have dw:=hid hrd;have gq:=hid hg0;have dx:=hid hcn;clear hsh hsc hr hrd hr0 fq dh;by_cases hm:c=42\/c=45\/c=95
  ·have hcount:Hid (R=(decide (3<=(c::t).count c)&&decide ((c::t).count c+(c::t).count 32=(c::t).length))):=hid (by
    rw[bg.out];rcases hm with h|h|h<;>simp[h])
   clear bg;go_enter func89,ntmps89;go_wp2_with (fail);refine hI.out.mono ?_;rintro e w'⟨rfl,rfl⟩;go_wp2_with (fail);refine hR.out.mono ?_;rintro e w'⟨rfl,rfl⟩;go_upto_region 6 with fail
   go_cut [25] (λs25 wx=>s25=.bool false/\w'=wx)
   case first=>
    rcases hm with h|h|h<;>subst h
    all_goals (go_wp2;go_meet;exact⟨rfl,rfl⟩)
   case rest=>
   obtain⟨rfl,rfl⟩:=hcut;clear hg0;go_wp2;go_loop [6,7] (λn i=>∃k:Nat,k<=r.size/\i=.int .i64 k/\n=.int .i64 ((r.data.toList.take k).count c:Nat)/\∀x∈r.data.toList.take k,x=c\/x=32) (λ_ i=>r.size-(intOf i).toNat)
   case atStart=>exact⟨0,Qt _,rfl,by simp,by simp⟩
   case round=>
    obtain⟨k,hk,rfl,rfl,hall⟩:=hrel;have hcl:(r.data.toList.take k).count c<=k:=Qj List.count_le_length (by rw[Ql];omega);by_cases hlt:k<r.size
    ·have hg:r.data.toList[k]?=some r[k]:=S.zad r k hlt;have htk:r.data.toList.take (k+1)=r.data.toList.take k++[r[k]]:=(by rw[List.take_add_one,hg];rfl);have hI2:(k:Int)<(r.size:Int):=(by omega);by_cases h1:r[k]=c
     ·have q1:((r[k].toNat:Int) == (c.toNat:Int))=true:=(by simp[h1]);have n1:((r[k].toNat:Int) != (c.toNat:Int))=false:=(by simp[h1]);have hn:Hid ((r.data.toList.take (k+1)).count c=(r.data.toList.take k).count c+1/\∀x∈r.data.toList.take (k+1),x=c\/x=32):=hid (by
       rw[htk];refine⟨by rw[List.count_append,h1];simp,?_⟩;intro x hx;rcases Qbh.1 hx with hx|hx
       ·exact hall x hx
       ·simp at hx;rw[hx];exact .inl h1)
      obtain⟨m,hmm⟩:=Qyy ((r.data.toList.take k).count c);rw[hmm] at hcl hn ⊢;clear hg hall htk hmm h1;go_wp2;exact⟨⟨k+1,by omega,by go_num,by rw[hn.out.1];go_num,hn.out.2⟩,by simp[intOf];omega⟩
     ·have q1:((r[k].toNat:Int) == (c.toNat:Int))=false:=by
       rw[Qe];intro h;exact h1 (Qk.1 (by omega))
      have n1:((r[k].toNat:Int) != (c.toNat:Int))=true:=(by rw[bne,q1];rfl);by_cases h2:r[k]=32
      ·have q2:((r[k].toNat:Int) == 32)=true:=(by simp[h2]);have n2:((r[k].toNat:Int) != 32)=false:=(by simp[h2]);have hn:Hid ((r.data.toList.take (k+1)).count c=(r.data.toList.take k).count c/\∀x∈r.data.toList.take (k+1),x=c\/x=32):=hid (by
        rw[htk];refine⟨by rw[List.count_append,List.count_singleton];simp[h1],?_⟩;intro x hx;rcases Qbh.1 hx with hx|hx
        ·exact hall x hx
        ·simp at hx;rw[hx];exact .inr h2)
       obtain⟨m,hmm⟩:=Qyy ((r.data.toList.take k).count c);rw[hmm] at hcl hn ⊢;clear hg hall htk hmm h1 h2;go_wp2;exact⟨⟨k+1,by omega,by go_num,by rw[hn.out.1],hn.out.2⟩,by simp[intOf];omega⟩
      ·have q2:((r[k].toNat:Int) == 32)=false:=by
        rw[Qe];intro h;exact h2 (Qk.1 (by show r[k].toNat=32;omega))
       have n2:((r[k].toNat:Int) != 32)=true:=(by rw[bne,q2];rfl);have hfin:Hid (R=false):=hid (by
        rw[hcount.out];have:¬((c::t).count c+(c::t).count 32=(c::t).length):=by
         rw[S.zu7 _ _ dx.out];intro h;rcases h r[k] (by rw[<-dw.out];exact List.mem_of_getElem? hg) with h|h
         ·exact h1 h
         ·exact h2 h
        rw[decide_eq_false this,Bool.and_false])
       clear hg hall htk h1 h2;go_wp2;go_ret;exact⟨zb1 hfin.out.symm,rfl⟩
    ·have hke:k=r.size:=(by omega);subst hke;have hfin:Hid (decide ((3:Int)<=((r.data.toList.take r.size).count c:Nat))=R):=hid (by
      have e:r.data.toList.take r.size=r.data.toList:=Qbj (by rw[S.lda];omega);rw[e] at hall ⊢;rw[hcount.out,<-dw.out,decide_eq_true ((S.zu7 _ _ dx.out).2 hall),Bool.and_true,decide_eq_decide];omega)
     obtain⟨m,hmm⟩:=Qyy ((r.data.toList.take r.size).count c);rw[hmm] at hcl hfin ⊢;clear hall hmm;go_wp2;go_ret;exact⟨zb1 hfin.out,rfl⟩
  ·have hfin:Hid (R=false):=hid (by
    rw[bg.out];have e1:c≠42:=λh=>hm (.inl h);have e2:c≠45:=λh=>hm (.inr (.inl h));have e3:c≠95:=λh=>hm (.inr (.inr h));simp[e1,e2,e3])
   have e1:((c.toNat:Int) != 42)=true:=by rw[bne_iff_ne];intro h;exact hm (.inl (Qk.1 (by show c.toNat=42;omega)))
   have e2:((c.toNat:Int) != 45)=true:=by rw[bne_iff_ne];intro h;exact hm (.inr (.inl (Qk.1 (by show c.toNat=45;omega))))
   have e3:((c.toNat:Int) != 95)=true:=by rw[bne_iff_ne];intro h;exact hm (.inr (.inr (Qk.1 (by show c.toNat=95;omega))))
   rw[hfin.out];clear bg hm;go_enter func89,ntmps89;go_wp2_with (fail);refine hI.out.mono ?_;rintro e w'⟨rfl,rfl⟩;go_wp2_with (fail);refine hR.out.mono ?_;rintro e w'⟨rfl,rfl⟩;go_wp2;go_ret;exact⟨rfl,rfl⟩
theorem zsm (s:ByteArray)(hs:s.size<=1000000)(c:UInt8)(t:List UInt8)(hsh:S.shallow s.data.toList=c::t):∃r:ByteArray,r.data.toList=c::t/\r.size=t.length+1/\(∀h:0<r.size,r[0]=c)/\t.length+1<=s.size/\c≠32 /\
   (∀w,Calls prog 127 #[.string s] w λe w'=>e=.returned (.bool true)/\w=w')/\(∀w,Calls prog 128 #[.string s] w λe w'=>e=.returned (.string r)/\w=w'):=by
 have hsc:=S.zgq _ c t hsh;refine⟨S.B (c::t),S.zaz _,by rw[S.zav];rfl,?_,?_,hsc.2.2,?_,?_⟩
 ·intro h;have h1:=S.zad (S.B (c::t)) 0 h;rw[S.zaz] at h1;exact(Qy h1).symm
 ·have:(c::t).length<=s.size:=by rw[<-hsc.1,Qf,S.lda];omega
  simpa using this
 ·intro w;have:=ztv s w hs;rw[hsh] at this;exact this.mono (λe w' ⟨h1,h2⟩=>⟨h1,h2.symm⟩)
 ·intro w;have:=zfu s w hs;rw[hsc.1] at this;exact this.mono (λe w' ⟨h1,h2⟩=>⟨h1,h2.symm⟩)
theorem zvn (s:ByteArray)(hs:s.size<=1000000)(hsh:S.shallow s.data.toList=[])(w:World):Calls prog 127 #[.string s] w λe w'=>e=.returned (.bool false)/\w=w':=by
 have:=ztv s w hs;rw[hsh] at this;exact this.mono (λe w' ⟨h1,h2⟩=>⟨h1,h2.symm⟩)
theorem zg2 (s:ByteArray)(w:World)(hs:s.size<=1000000):Calls prog 92 #[.string s] w λe w'=>e=.returned (.bool (S.zat s.data.toList))/\w'=w:=by
 cases hsh:S.shallow s.data.toList with
 | nil=>
  have hE:S.zat s.data.toList=false:=by unfold S.zat;rw[hsh];rfl
  have hI:=hid (zvn s hs hsh w);rw[hE];clear hE hsh;go_enter func92,ntmps92;go_wp2_with fail
  refine hI.out.mono ?_;rintro e w'⟨rfl,rfl⟩;go_wp2;go_ret;exact⟨rfl,rfl⟩
 | cons c t=>
  obtain⟨r,hrd,hrs,hg,hle,hc,hI,hR⟩:=zsm s hs c t hsh;have hz:0<r.size:=by omega
  have hg0:=hg hz;have hE:Hid (S.zat s.data.toList=((c.toNat:Int) == 62)):=hid (by
   unfold S.zat;rw[hsh];rw[Bool.eq_iff_iff,beq_iff_eq];constructor
   ·intro h;simp[Lib.hasPrefix] at h;subst h;rfl
   ·intro h;have:c=62:=Qk.1 (by show c.toNat=62;omega);subst this;rfl)
  have dh:=hid (hI w);have bg:=hid (hR w);clear hsh hrd hg hI hR;go_enter func92,ntmps92;go_wp2_with fail
  refine dh.out.mono ?_;rintro e w'⟨rfl,rfl⟩;go_wp2_with fail
  refine bg.out.mono ?_;rintro e w'⟨rfl,rfl⟩;go_wp2;go_ret;exact⟨zb1 hE.out.symm,rfl⟩
theorem zsf (s:ByteArray)(c:UInt8)(n:Nat)(w:World)(hs:s.size<=1000000)(hn:1<=n)(hn2:n<=1000000):Calls prog 141 #[.string s,.int .u8 (c.toNat:Int),.int .i64 (n:Nat)] w λe w'=>e=.returned (.bool (S.zcg c n s.data.toList))/\w'=w:=by
 cases hsh:S.shallow s.data.toList with
 | nil=>
  have hE:S.zcg c n s.data.toList=false:=by
   unfold S.zcg;rw[hsh];simp[S.cnt];omega
  have hI:=hid (zvn s hs hsh w);rw[hE];clear hE hsh;go_enter func141,ntmps141;go_wp2_with fail
  refine hI.out.mono ?_;rintro e w'⟨rfl,rfl⟩;go_wp2;go_ret;exact⟨rfl,rfl⟩
 | cons d t=>
  obtain⟨r,hrd,hrs,hg,hle,hc,hI,hR⟩:=zsm s hs d t hsh;have hM:=zdl r 0 c w (by omega) (by omega);rw[List.drop_zero] at hM;have hkl:=S.zd3 c r.data.toList;rw[S.lda] at hkl;have hE:S.zcg c n s.data.toList=(decide ((n:Int)<=(S.cnt c r.data.toList:Int))&&S.blank (r.data.toList.drop (S.cnt c r.data.toList))):=by
   unfold S.zcg;rw[hsh,hrd]
  obtain⟨k,hk⟩:=Qyy (S.cnt c r.data.toList);rw[hk] at hM hE hkl;have hBl:=zc7 (r.extract k r.size) w (by simp;omega);rw[S.zbf] at hBl;obtain⟨bl,hbl⟩:=Qyy (S.blank (r.data.toList.drop k));rw[hbl] at hBl hE;rw[hE];have dh:=hid hM;have dx:=hid hBl;have dw:=hid (hI w);have bg:=hid (hR w);have h0:(0:Int)<=(k:Int):=by omega
  have h1:(k:Int)<=(r.size:Int):=by omega
  clear hsh hrd hg hI hR hM hBl hE hk hbl hrs;by_cases hw:(n:Int)<=(k:Int)
  ·have hE2:Hid ((decide ((n:Int)<=(k:Int))&&bl)=bl):=hid (by rw[decide_eq_true hw,Bool.true_and]);rw[hE2.out];go_enter func141,ntmps141;go_wp2_with (fail);refine dw.out.mono ?_;rintro e w'⟨rfl,rfl⟩;go_wp2_with (fail);refine bg.out.mono ?_;rintro e w'⟨rfl,rfl⟩;go_wp2_with (fail);refine dh.out.mono ?_;rintro e w'⟨rfl,rfl⟩;go_wp2_with (fail);refine dx.out.mono ?_;rintro e w'⟨rfl,rfl⟩;go_wp2;go_ret;exact⟨rfl,rfl⟩
  ·have hE2:Hid ((decide ((n:Int)<=(k:Int))&&bl)=false):=hid (by rw[decide_eq_false hw,Bool.false_and]);rw[hE2.out];go_enter func141,ntmps141;go_wp2_with (fail);refine dw.out.mono ?_;rintro e w'⟨rfl,rfl⟩;go_wp2_with (fail);refine bg.out.mono ?_;rintro e w'⟨rfl,rfl⟩;go_wp2_with (fail);refine dh.out.mono ?_;rintro e w'⟨rfl,rfl⟩;go_wp2_with (fail);refine dx.out.mono ?_;rintro e w'⟨rfl,rfl⟩;go_wp2;go_ret;exact⟨rfl,rfl⟩
namespace S
theorem zo8 (c:UInt8)(l:List UInt8):cnt c l=l.length↔∀x∈l,x=c:=by
 induction l with
 | nil=>simp[cnt]
 | cons x r ih=>
  have:=zd3 c r;simp only[cnt,Qd,List.mem_cons,forall_eq_or_imp];by_cases h:x=c
  ·rw[if_pos h];constructor
   ·intro e;exact⟨h,ih.1 (by omega)⟩
   ·intro e;rw[ih.2 e.2]
  ·rw[if_neg h];constructor
   ·intro e;omega
   ·intro e;exact absurd e.1 h
theorem zn9 (l:List UInt8)(c:UInt8):∃m,l=Lib.trimRightB l c++m/\∀x∈m,x=c:=by
 induction l with
 | nil=>exact⟨[],rfl,by simp⟩
 | cons x r ih=>
  obtain⟨m,h1,h2⟩:=ih;rw[zcq];by_cases he:Lib.trimRightB r c=[]
  ·rw[if_pos he];rw[he,List.nil_append] at h1;by_cases hx:x=c
   ·rw[if_pos hx];exact⟨x::r,rfl,by rw[h1];intro y hy;rcases List.mem_cons.1 hy with rfl|hy;exact hx;exact h2 y hy⟩
   ·rw[if_neg hx];exact⟨r,rfl,by rw[h1];exact h2⟩
  ·rw[if_neg he];exact⟨m,by rw[List.cons_append,<-h1],h2⟩
theorem zhy (l:List UInt8)(c:UInt8):(Lib.trimRightB l c).getLast?≠some c:=by
 induction l with
 | nil=>simp[Lib.trimRightB]
 | cons x r ih=>
  rw[zcq];by_cases he:Lib.trimRightB r c=[]
  ·rw[if_pos he];by_cases hx:x=c
   ·rw[if_pos hx];simp
   ·rw[if_neg hx];simpa using hx
  ·rw[if_neg he];cases hq:Lib.trimRightB r c with
   | nil=>exact absurd hq he
   | cons y q=>rw[hq] at ih;rw[List.getLast?_cons_cons];exact ih
theorem z08 (c:UInt8)(l:List UInt8)(x:UInt8)(i:Nat)(hi:i<cnt c l)(hx:l[i]?=some x):x=c:=by
 induction l generalizing i with
 | nil=>simp at hx
 | cons y r ih=>
  simp only[cnt] at hi;by_cases h:y=c
  ·rw[if_pos h] at hi;cases i with
   | zero=>simp at hx;rw[<-hx];exact h
   | succ i=>exact ih i (by omega) (by simpa using hx)
  ·rw[if_neg h] at hi;omega
theorem znq (l:List UInt8)(c:UInt8)(hc:c≠32)(h0:∃d t,l=d::t/\d≠32):rowOf l c=decide (cnt c (Lib.trimRightB l 32)=(Lib.trimRightB l 32).length):=by
 obtain⟨d,t,rfl,hd⟩:=h0;obtain⟨m,h1,h2⟩:=zn9 (d::t) 32;have hne:Lib.trimRightB (d::t) 32≠[]:=by
  rw[zcq,if_neg hd];split<;>simp
 obtain⟨a,ha⟩:=Qyy (Lib.trimRightB (d::t) 32);rw[ha] at h1 hne ⊢;rw[Bool.eq_iff_iff,decide_eq_true_iff,zo8];unfold rowOf;rw[Bool.and_eq_true,decide_eq_true_iff,h1];have happ:∀(p q:List UInt8),(∀x∈p,x=c)->(∀x∈q,x=32)->cnt c (p++q)=p.length:=by
  intro p q hp hq;induction p with
  | nil=>
   cases q with
   | nil=>rfl
   | cons y q=>simp[cnt,hq y (by simp)];exact λe=>hc e.symm
  | cons y p ih=>
   have e:y=c:=hp y (by simp);have:=ih (λx hx=>hp x (by simp[hx]));simp only[List.cons_append,cnt,Qd,if_pos e,this]
 constructor
 ·rintro⟨h3,h4⟩ x hx;have h5:∀b∈(a++m).drop (cnt c (a++m)),b=32:=by
   have:=h4;unfold blank indent at this;rw[decide_eq_true_iff] at this;exact(zo8 32 _).1 this
  obtain⟨i,hi⟩:=List.getElem?_of_mem hx;have hil:=(Qb.1 hi).1;have hi2:(a++m)[i]?=some x:=by rw[Qbd hil];exact hi
  by_cases hk:i<cnt c (a++m)
  ·exact z08 c _ x i hk hi2
  ·exfalso
   have hl:=zhy (d::t) 32;rw[ha] at hl;apply hl
   rw[List.getLast?_eq_getElem?];have hj:a.length-1<a.length:=by omega
   rw[Qg hj];congr 1
   apply h5
   have e:(a++m)[a.length-1]?=some a[a.length-1]:=by rw[Qbd hj];exact Qg hj
   have e2:((a++m).drop (cnt c (a++m)))[a.length-1-cnt c (a++m)]?=some a[a.length-1]:=by
    rw[Qn,show cnt c (a++m)+(a.length-1-cnt c (a++m))=a.length-1 by omega];exact e
   exact List.mem_of_getElem? e2
 ·intro hall;rw[happ a m hall h2];refine⟨Qbf.2 hne,?_⟩;unfold blank indent;rw[decide_eq_true_iff,List.drop_left,(zo8 32 m).2 h2]
end S
theorem zn7 (s:ByteArray)(w:World)(hs:s.size<=1000000):Calls prog 143 #[.string s] w λe w'=>e=.returned (.int .i64 (S.zab s.data.toList:Nat))/\w'=w:=by
 cases hsh:S.shallow s.data.toList with
 | nil=>
  have hE:S.zab s.data.toList=0:=by unfold S.zab;rw[hsh];rfl
  have hI:=hid (zvn s hs hsh w);rw[hE];clear hE hsh;go_enter func143,ntmps143;go_wp2_with fail
  refine hI.out.mono ?_;rintro e w'⟨rfl,rfl⟩;go_wp2;go_ret;exact⟨rfl,rfl⟩
 | cons d t=>
  obtain⟨_,_,_,_,hle,hc,hI,_⟩:=zsm s hs d t hsh;have hsc:=S.zgq _ d t hsh;have hBa:=zlz s w hs;rw[<-S.zga,show S.cnt 32 s.data.toList=S.indent s.data.toList from rfl,hsc.1] at hBa;obtain⟨r,hr⟩:=Qyy (S.B (Lib.trimRightB (d::t) 32));have hrd:Lib.trimRightB (d::t) 32=r.data.toList:=by rw[<-hr,S.zaz]
  have hrs:r.size<=t.length+1:=by rw[<-S.lda,<-hrd];exact S.zcm _ _
  rw[hr] at hBa;have hM1:=zdl r 0 61 w (by omega) (by omega);have hM2:=zdl r 0 45 w (by omega) (by omega);rw[List.drop_zero] at hM1 hM2;have hE:S.zab s.data.toList=if S.cnt 61 r.data.toList=r.size then 1 else if S.cnt 45 r.data.toList=r.size then 2 else 0:=by
   unfold S.zab;rw[hsh,S.znq (d::t) 61 (by decide) ⟨d,t,rfl,hc⟩,S.znq (d::t) 45 (by decide) ⟨d,t,rfl,hc⟩,hrd,S.lda];simp only[decide_eq_true_eq]
  have hl1:=S.zd3 61 r.data.toList;have hl2:=S.zd3 45 r.data.toList;rw[S.lda] at hl1 hl2;obtain⟨k1,hk1⟩:=Qyy (S.cnt 61 r.data.toList);obtain⟨k2,hk2⟩:=Qyy (S.cnt 45 r.data.toList);rw[hk1] at hM1 hE hl1;rw[hk2] at hM2 hE hl2;have dw:=hid (hI w);have dx:=hid hBa;have bg:=hid hM1;have dh:=hid hM2;rw[hE];clear hsh hI hBa hM1 hM2 hE hr hrd hk1 hk2 hsc;by_cases h1:k1=r.size
  ·have h1':(k1:Int)=(r.size:Int):=by omega
   rw[if_pos h1];clear h1;go_enter func143,ntmps143;go_wp2_with (fail);refine dw.out.mono ?_;rintro e w'⟨rfl,rfl⟩;go_wp2_with (fail);refine dx.out.mono ?_;rintro e w'⟨rfl,rfl⟩;go_wp2_with (fail);refine bg.out.mono ?_;rintro e w'⟨rfl,rfl⟩;go_wp2;go_ret;exact⟨rfl,rfl⟩
  ·have h1':¬(k1:Int)=(r.size:Int):=by omega
   rw[if_neg h1];clear h1;by_cases h2:k2=r.size
   ·have h2':(k2:Int)=(r.size:Int):=(by omega);rw[if_pos h2];clear h2;go_enter func143,ntmps143;go_wp2_with (fail);refine dw.out.mono ?_;rintro e w'⟨rfl,rfl⟩;go_wp2_with (fail);refine dx.out.mono ?_;rintro e w'⟨rfl,rfl⟩;go_wp2_with (fail);refine bg.out.mono ?_;rintro e w'⟨rfl,rfl⟩;go_wp2_with (fail);refine dh.out.mono ?_;rintro e w'⟨rfl,rfl⟩;go_wp2;go_ret;exact⟨rfl,rfl⟩
   ·have h2':¬(k2:Int)=(r.size:Int):=(by omega);rw[if_neg h2];clear h2;go_enter func143,ntmps143;go_wp2_with (fail);refine dw.out.mono ?_;rintro e w'⟨rfl,rfl⟩;go_wp2_with (fail);refine dx.out.mono ?_;rintro e w'⟨rfl,rfl⟩;go_wp2_with (fail);refine bg.out.mono ?_;rintro e w'⟨rfl,rfl⟩;go_wp2_with (fail);refine dh.out.mono ?_;rintro e w'⟨rfl,rfl⟩;go_wp2;go_ret;exact⟨rfl,rfl⟩
namespace S
theorem zi5 (l:List UInt8)(c:UInt8):Lib.hasSuffix l [c]=true↔l.getLast?=some c:=by
 unfold Lib.hasSuffix;rw[List.isSuffixOf_iff_suffix];constructor
 ·rintro⟨a,rfl⟩;simp
 ·intro h;obtain⟨a,rfl⟩:=List.getLast?_eq_some_iff.1 h;exact⟨a,rfl⟩
theorem zx5 (l:List UInt8)(k:Nat)(hk:Lib.trimRightB (zb3 l) 35=(zb3 l).take k)(hkl:k<(zb3 l).length)(h:k=0\/(zb3 l)[k-1]?=some 32):zal l=Lib.trimRightB ((zb3 l).take k) 32:=by
 unfold zal;rw[hk];rw[if_pos];cases k with
 | zero=>exact .inl rfl
 | succ k=>
  rcases h with h|h
  ·omega
  ·right
   rw[zi5,List.getLast?_eq_getElem?,Ql,Nat.min_eq_left (by omega),Qbe (by omega)];exact h
theorem zwk (l:List UInt8)(k:Nat)(hk:Lib.trimRightB (zb3 l) 35=(zb3 l).take k)(h:k=(zb3 l).length\/(0<k/\k<(zb3 l).length/\(zb3 l)[k-1]?≠some 32)):zal l=zb3 l:=by
 have hlast:(zb3 l).getLast?≠some 32:=by
  unfold zb3;rw[<-zga];exact zhy _ _
 unfold zal;rw[hk];rcases h with h|⟨h0,h1,h2⟩
 ·rw[h,Qbl];split
  ·rename_i h3;rcases h3 with h3|h3
   ·rw[List.isEmpty_iff.1 h3];rfl
   ·rw[zi5] at h3;exact absurd h3 hlast
  ·rfl
 ·rw[if_neg];rintro(h3|h3)
  ·have:=congrArg List.length (List.isEmpty_iff.1 h3);rw[Ql,Qi] at this;omega
  ·rw[zi5,List.getLast?_eq_getElem?,Ql,Nat.min_eq_left (by omega),Qbe (by omega)] at h3;exact h2 h3
end S
theorem znh (s:ByteArray)(w:World)(hs:s.size<=1000000):Calls prog 90 #[.string s] w λe w'=>∃X:ByteArray,e=.returned (.tuple #[.int .i64 (S.zaq s.data.toList:Nat),.string X])/\Hid (0<S.zaq s.data.toList->X=S.B (S.zal s.data.toList))/\w'=w:=by
 cases hsh:S.shallow s.data.toList with
 | nil=>
  have hE:S.zaq s.data.toList=0:=by unfold S.zaq;rw[hsh];rfl
  have hI:=hid (zvn s hs hsh w);rw[hE];clear hE hsh;go_enter func90,ntmps90;go_wp2_with fail
  refine hI.out.mono ?_;rintro e w'⟨rfl,rfl⟩;go_wp2;go_ret2;exact⟨⟨#[]⟩,rfl,hid (λh=>by omega),rfl⟩
 | cons d t=>
  obtain⟨r,hrd,hrs,hg,hle,hc,hI,hR⟩:=zsm s hs d t hsh;have hM:=zdl r 0 35 w (by omega) (by omega);rw[List.drop_zero] at hM;have hkl:=S.zd3 35 r.data.toList;rw[S.lda] at hkl;have hE:S.zaq s.data.toList=if 6<S.cnt 35 r.data.toList\/S.zb7 r.data.toList (S.cnt 35 r.data.toList)=false then 0 else S.cnt 35 r.data.toList:=by
   unfold S.zaq;rw[hsh,hrd]
  have hO:S.zb3 s.data.toList=Lib.trimB (r.data.toList.drop (S.cnt 35 r.data.toList)) 32:=by unfold S.zb3;rw[hsh,hrd]
  obtain⟨n,hn⟩:=Qyy (S.cnt 35 r.data.toList);rw[hn] at hM hE hkl hO;have hBa:=zlz (r.extract n r.size) w (by simp;omega);rw[S.zbf,<-hO] at hBa;obtain⟨O,dh⟩:=Qyy (S.zb3 s.data.toList);have jl:O.length<=r.size:=by
   rw[<-dh,hO];have:=S.zhm (r.data.toList.drop n) 32;rw[Qf,S.lda] at this;omega
  have jh:=hid hM;have jk:=hid (hI w);have jg:=hid (hR w);have hJ0:(0:Int)<=(n:Int):=by omega
  have jy:(n:Int)<=(r.size:Int):=by omega
  by_cases hbad:n<1\/6<n\/(n<r.size/\r.data.toList[n]?≠some 32)
  ·have hE0:S.zaq s.data.toList=0:=by
    rw[hE];rcases hbad with h|h|h
    ·split<;>omega
    ·rw[if_pos (.inl h)]
    ·have h5:S.zb7 r.data.toList n=false:=by
      unfold S.zb7;rw[S.lda,decide_eq_false (by omega),decide_eq_false h.2];rfl
     rw[if_pos (.inr h5)]
   have hgn:n<r.size->r.data.toList[n]?=some r[n]!:=λh=>by rw[S.zad r n h];simp[getElem!_pos,h]
   rw[hE0];by_cases h1:n<1
   ·have h1':(n:Int)<1:=(by omega);clear hsh hrd hg hI hR hM hE hn hBa hO dh hE0 hbad hgn;go_enter func90,ntmps90;go_wp2_with (fail);refine jk.out.mono ?_;rintro e w'⟨rfl,rfl⟩;go_wp2_with (fail);refine jg.out.mono ?_;rintro e w'⟨rfl,rfl⟩;go_wp2_with (fail);refine jh.out.mono ?_;rintro e w'⟨rfl,rfl⟩;go_wp2;go_ret2;exact⟨⟨#[]⟩,rfl,hid (λh=>by omega),rfl⟩
   ·have h1':¬(n:Int)<1:=(by omega);by_cases h2:6<n
    ·have h2':(6:Int)<(n:Int):=(by omega);clear hsh hrd hg hI hR hM hE hn hBa hO dh hE0 hbad hgn;go_enter func90,ntmps90;go_wp2_with (fail);refine jk.out.mono ?_;rintro e w'⟨rfl,rfl⟩;go_wp2_with (fail);refine jg.out.mono ?_;rintro e w'⟨rfl,rfl⟩;go_wp2_with (fail);refine jh.out.mono ?_;rintro e w'⟨rfl,rfl⟩;go_wp2;go_ret2;exact⟨⟨#[]⟩,rfl,hid (λh=>by omega),rfl⟩
    ·have h2':¬(6:Int)<(n:Int):=(by omega);have h3:n<r.size/\r.data.toList[n]?≠some 32:=by
      rcases hbad with h|h|h
      ·omega
      ·omega
      ·exact h
     have hlt:=h3.1;have h3':(n:Int)<(r.size:Int):=(by omega);have h4:((r[n].toNat:Int) != 32)=true:=by
      rw[bne_iff_ne];intro h;apply h3.2
      rw[S.zad r n h3.1];congr 1
      exact Qk.1 (by show r[n].toNat=32;omega)
     clear hsh hrd hg hI hR hM hE hn hBa hO dh hE0 hbad hgn h3;go_enter func90,ntmps90;go_wp2_with (fail);refine jk.out.mono ?_;rintro e w'⟨rfl,rfl⟩;go_wp2_with (fail);refine jg.out.mono ?_;rintro e w'⟨rfl,rfl⟩;go_wp2_with (fail);refine jh.out.mono ?_;rintro e w'⟨rfl,rfl⟩;go_wp2;go_ret2;exact⟨⟨#[]⟩,rfl,hid (λh=>by omega),rfl⟩
  ·have hn1:1<=n/\n<=6:=by omega
   have hE1:S.zaq s.data.toList=n:=by
    rw[hE,if_neg];rintro(h|h)
    ·omega
    ·apply hbad
     unfold S.zb7 at h;rw[Bool.or_eq_false_iff,S.lda] at h;exact .inr (.inr ⟨by have:=of_decide_eq_false h.1;omega,of_decide_eq_false h.2⟩)
   rw[hE1];obtain⟨q,hq⟩:=Qyy (S.B O);have dw:O=q.data.toList:=by rw[<-hq,S.zaz]
   have jw:q.size<=r.size:=by rw[<-S.lda,<-dw];exact jl
   rw[dh,hq] at hBa;have fq:Hid (∀k,Lib.trimRightB q.data.toList 35=q.data.toList.take k->k<q.size->(k=0\/q.data.toList[k-1]?=some 32)->S.B (Lib.trimRightB (q.extract 0 k).data.toList 32)=S.B (S.zal s.data.toList)):=hid (λk h1 h2 h3=>by
    rw[S.zx5 s.data.toList k (by rw[dh,dw];exact h1) (by rw[dh,dw,S.lda];exact h2) (by rw[dh,dw];exact h3),dh,dw,z0n,S.zaz])
   have bg:Hid (∀k,Lib.trimRightB q.data.toList 35=q.data.toList.take k->(k=q.size\/(0<k/\k<q.size/\q.data.toList[k-1]?≠some 32))->q=S.B (S.zal s.data.toList)):=hid (λk h1 h2=>by
    rw[S.zwk s.data.toList k (by rw[dh,dw];exact h1) (by rw[dh,dw,S.lda];exact h2),dh,hq])
   have gy:Hid (∀k,k<=q.size->∀wx,Calls prog 130 #[.string (q.extract 0 k)] wx λe w'=>e=.returned (.string (S.B (Lib.trimRightB (q.extract 0 k).data.toList 32)))/\wx=w'):=hid (λk hk wx=>(zfq (q.extract 0 k) wx (by simp;omega)).mono (λe w' ⟨h1,h2⟩=>⟨h1,h2.symm⟩));have jq:=hid hBa;have h1':¬(n:Int)<1:=by omega
   have h2':¬(6:Int)<(n:Int):=by omega
   have dx:n<r.size->((r.data.toList[n]?=some 32)):=λh=>by
    by_cases e:r.data.toList[n]?=some 32
    ·exact e
    ·exact absurd (.inr (.inr ⟨h,e⟩)) hbad
   have hstart:Hid (n<r.size->∀h:n<r.size,((r[n].toNat:Int) != 32)=false):=hid (λ_ h=>by
    have:=dx h;rw[S.zad r n h] at this;have e:r[n]=32:=Qy this;simp[e])
   have hrb:r.size<=1000000:=by omega
   clear hsh hrd hg hI hR hM hE hn hBa hO dh hE1 hbad hq dw dx hrs;go_enter func90,ntmps90;go_wp2_with (fail);refine jk.out.mono ?_;rintro e w'⟨rfl,rfl⟩;go_wp2_with (fail);refine jg.out.mono ?_;rintro e w'⟨rfl,rfl⟩;go_wp2_with (fail);refine jh.out.mono ?_;rintro e w'⟨rfl,rfl⟩;go_upto_region 6 with fail
   go_cut [34] (λs34 wx=>s34=.bool false/\w'=wx)
   case first=>
    by_cases hlt:n<r.size
    ·have h3':(n:Int)<(r.size:Int):=(by omega);have h4:=hstart.out hlt hlt;go_wp2;go_meet;exact⟨by first|rfl|(have e1:¬(n:Int)<1:=(by omega);have e2:¬(6:Int)<(n:Int):=(by omega);rw[decide_eq_false e1,decide_eq_false e2];rfl),rfl⟩
    ·have h3':¬(n:Int)<(r.size:Int):=(by omega);go_wp2;go_meet;exact⟨by first|rfl|(have e1:¬(n:Int)<1:=(by omega);have e2:¬(6:Int)<(n:Int):=(by omega);rw[decide_eq_false e1,decide_eq_false e2];rfl),rfl⟩
   case rest=>
   obtain⟨rfl,rfl⟩:=hcut;clear hstart;go_wp2_with (fail);refine jq.out.mono ?_;rintro e w'⟨rfl,rfl⟩;go_wp2;go_loop [8] (λi=>∃k:Nat,k<=q.size/\i=.int .i64 k/\∀j,k<=j->j<q.data.toList.length->q.data.toList[j]?=some 35) (λi=>(intOf i).toNat)
   case atStart=>exact⟨q.size,Qc _,rfl,by intro j hj hl;rw[S.lda] at hl;omega⟩
   case round=>
    obtain⟨k,hk,rfl,hall⟩:=hrel;have hI1:(0:Int)<=(k:Int):=(by omega);have hI2:(k:Int)<=(q.size:Int):=(by omega);by_cases h0:0<k
    ·obtain⟨m,rfl⟩:∃m,k=m+1:=⟨k-1,by omega⟩;have hgm:q.data.toList[m]?=some q[m]:=S.zad q m (by omega);have hwr:IntKind.i64.wrap (((m+1:Nat):Int)-1)=(m:Int):=(by rw[IntKind.wrap_i64];omega);have kg:(m:Int)<(q.size:Int):=(by omega);have hlm:m<q.size:=(by omega);by_cases hc35:q[m]=35
     ·have h1:((q[m].toNat:Int) == 35)=true:=(by simp[hc35]);have gq:Hid (∀j,m<=j->j<q.data.toList.length->q.data.toList[j]?=some 35):=by
       intro j hj hl;by_cases e:j=m
       ·subst e;rw[hgm,hc35]
       ·exact hall j (by omega) hl
      clear hgm hall hc35;go_wp2;exact⟨⟨m,by omega,by go_num,gq.out⟩,by simp[intOf]⟩
     ·have h1:((q[m].toNat:Int) == 35)=false:=by
       rw[Qe];intro h;exact hc35 (Qk.1 (by show q[m].toNat=35;omega))
      have htr:Lib.trimRightB q.data.toList 35=q.data.toList.take (m+1):=S.zf1 q.data.toList 35 (m+1) (by rw[S.lda];omega) hall (.inr (by rw[Nat.add_sub_cancel,hgm];simpa using hc35));by_cases hfull:m+1=q.size
      ·have hX:=hid (bg.out (m+1) htr (.inl hfull));have h2:¬(((m+1:Nat):Int))<(q.size:Int):=(by omega);clear hgm hall hc35 htr hfull;go_wp2;go_ret2;exact⟨q,rfl,hid (λ_=>hX.out),rfl⟩
      ·have h2:(((m+1:Nat):Int))<(q.size:Int):=(by omega);have h3:¬(((m+1:Nat):Int))=0:=(by omega);by_cases h32:q[m]=32
       ·have h4:((q[m].toNat:Int) == 32)=true:=(by simp[h32]);have hX:=hid (fq.out (m+1) htr (by omega) (.inr (by rw[Nat.add_sub_cancel,hgm,h32])));have jd:=hid (gy.out (m+1) (by omega));clear hgm hall hc35 htr h32;go_wp2_with (fail);refine(jd.out _).mono ?_;rintro e w'⟨rfl,rfl⟩;go_wp2;go_ret2;exact⟨_,rfl,hid (λ_=>by first|exact hX.out|(have:=hX.out;rw[z0n,S.zaz] at this;exact this)),rfl⟩
       ·have h4:((q[m].toNat:Int) == 32)=false:=by
         rw[Qe];intro h;exact h32 (Qk.1 (by show q[m].toNat=32;omega))
        have hX:=hid (bg.out (m+1) htr (.inr ⟨by omega,by omega,by rw[Nat.add_sub_cancel,hgm];simpa using h32⟩));clear hgm hall hc35 htr h32;go_wp2;go_ret2;exact⟨q,rfl,hid (λ_=>hX.out),rfl⟩
    ·have hk0:k=0:=(by omega);subst hk0;have htr:Lib.trimRightB q.data.toList 35=q.data.toList.take 0:=S.zf1 q.data.toList 35 0 (Qt _) hall (.inl rfl);by_cases hfull:q.size=0
     ·have hX:=hid (bg.out 0 htr (.inl hfull.symm));have h2:¬(0:Int)<(q.size:Int):=(by omega);clear hall htr hfull;go_wp2;go_ret2;exact⟨q,rfl,hid (λ_=>hX.out),rfl⟩
     ·have h2:(0:Int)<(q.size:Int):=(by omega);have hX:=hid (fq.out 0 htr (by omega) (.inl rfl));have jd:=gy.out 0 (by omega);rw[show q.extract 0 0=ByteArray.empty by rw[z0n];rfl] at jd hX;have jm:=hid jd;clear hall htr hfull jd;go_wp2_with (fail);refine(jm.out _).mono ?_;rintro e w'⟨rfl,rfl⟩;go_wp2;go_ret2;exact⟨_,rfl,hid (λ_=>hX.out),rfl⟩
def zfi (l:List UInt8)(m k:Int)(x:ByteArray):Prop:=(0<=k/\k<=1000000)/\if (S.fence l).ok=true then m=((S.fence l).mark.toNat:Int)/\k=((S.fence l).width:Int)/\x=S.B (S.fence l).info else k=0
theorem znl (s:ByteArray)(w:World)(hs:s.size<=1000000):Calls prog 91 #[.string s] w λe w'=>∃(m k:Int) (x:ByteArray),e=.returned (.tuple #[.int .u8 m,.int .i64 k,.string x])/\Hid (zfi s.data.toList m k x)/\w'=w:=by
 cases hsh:S.shallow s.data.toList with
 | nil=>
  have hE:Hid (zfi s.data.toList 0 0 ⟨#[]⟩):=hid ⟨by omega,by rw[S.zlc _ hsh];rfl⟩;have hI:=hid (zvn s hs hsh w);clear hsh;go_enter func91,ntmps91;go_wp2_with fail
  refine hI.out.mono ?_;rintro e w'⟨rfl,rfl⟩;go_wp2;go_ret3
  exact⟨0,0,⟨#[]⟩,rfl,hE,rfl⟩
 | cons c t=>
  obtain⟨r,hrd,hrs,hg,hle,hc,hI,hR⟩:=zsm s hs c t hsh;have hz:0<r.size:=by omega
  have hg0:=hg hz;have hM:=zdl r 0 c w (by omega) (by omega);rw[List.drop_zero] at hM;have hkl:=S.zd3 c r.data.toList;rw[S.lda] at hkl;have hF1:c=96\/c=126->S.fence s.data.toList=⟨c,S.cnt c r.data.toList,S.indent s.data.toList,S.zdj r.data.toList c,S.zcj c (S.cnt c r.data.toList) (S.zdj r.data.toList c)⟩:=λh=>by rw[hrd];exact S.zj1 _ c t hsh h
  have fq:¬c=96->¬c=126->S.fence s.data.toList=⟨0,0,0,[],false⟩:=S.zpb _ c t hsh;obtain⟨n,hn⟩:=Qyy (S.cnt c r.data.toList);rw[hn] at hM hF1 hkl;have hBa:=zlz (r.extract n r.size) w (by simp;omega);rw[S.zbf] at hBa;obtain⟨info,dh⟩:=Qyy (S.zdj r.data.toList c);have bg:Lib.trimB (r.data.toList.drop n) 32=info:=by rw[<-dh];unfold S.zdj;rw[hn]
  rw[bg] at hBa;rw[dh] at hF1;obtain⟨q,hq⟩:=Qyy (S.B info);have dw:info=q.data.toList:=by rw[<-hq,S.zaz]
  have jk:q.size<=1000000:=by
   rw[<-S.lda,<-dw,<-bg];have:=S.zhm (r.data.toList.drop n) 32;rw[Qf,S.lda] at this;omega
  rw[hq] at hBa;have jd:=hid hM;have jg:=hid (hI w);have gy:=hid (hR w);have jh:=hid hBa;have hJ0:(0:Int)<=(n:Int):=by omega
  have jl:(n:Int)<=(r.size:Int):=by omega
  have hrb:r.size<=1000000:=by omega
  by_cases hm:c=96\/c=126
  ·by_cases h3:n<3
   ·have hE:Hid (zfi s.data.toList 0 0 ⟨#[]⟩):=hid ⟨by omega,by
     rw[hF1 hm,if_neg];show ¬S.zcj c n info=true;unfold S.zcj;rw[decide_eq_false (by omega)];simp⟩
    have h3':(n:Int)<3:=(by omega);clear hsh hrd hg hI hR hM hn hBa hF1 fq dh bg hq dw hrs h3;rcases hm with h|h<;>subst h
    all_goals
     go_enter func91,ntmps91;go_wp2_with (fail);refine jg.out.mono ?_;rintro e w'⟨rfl,rfl⟩;go_wp2_with (fail);refine gy.out.mono ?_;rintro e w'⟨rfl,rfl⟩;go_wp2_with (fail);refine jd.out.mono ?_;rintro e w'⟨rfl,rfl⟩;go_wp2;go_ret3
     exact⟨0,0,⟨#[]⟩,rfl,hE,rfl⟩
   ·have h3':¬(n:Int)<3:=(by omega);rcases hm with h|h
    ·subst h;have hok:Hid (zfi s.data.toList 96 n q\/96∈q.data.toList):=hid (by
      by_cases hmem:96∈q.data.toList
      ·exact .inr hmem
      ·left
       refine⟨by omega,?_⟩;rw[hF1 (.inl rfl)];have:S.zcj 96 n info=true:=(by unfold S.zcj;rw[dw,decide_eq_true (show 3<=n by omega),decide_eq_false hmem];rfl);rw[if_pos this];exact⟨rfl,rfl,hq.symm⟩)
     have hno:Hid (96∈q.data.toList->zfi s.data.toList 0 0 ⟨#[]⟩):=hid (λhmem=>⟨by omega,by
      rw[hF1 (.inl rfl)];have:S.zcj 96 n info=false:=(by unfold S.zcj;rw[dw,decide_eq_true hmem];simp);rw[if_neg (by rw[this];simp)]⟩)
     clear hsh hrd hg hI hR hM hn hBa hF1 fq dh bg hq dw hrs h3;go_enter func91,ntmps91;go_wp2_with (fail);refine jg.out.mono ?_;rintro e w'⟨rfl,rfl⟩;go_wp2_with (fail);refine gy.out.mono ?_;rintro e w'⟨rfl,rfl⟩;go_wp2_with (fail);refine jd.out.mono ?_;rintro e w'⟨rfl,rfl⟩;go_wp2_with (fail);refine jh.out.mono ?_;rintro e w'⟨rfl,rfl⟩;go_wp2;go_loop [10] (λi=>∃k:Nat,k<=q.size/\i=.int .i64 k/\∀j,j<k->q.data.toList[j]?≠some 96) (λi=>q.size-(intOf i).toNat)
     case atStart=>exact⟨0,Qt _,rfl,by intro j hj;omega⟩
     case round=>
      obtain⟨k,hk,rfl,hall⟩:=hrel;by_cases hlt:k<q.size
      ·have gq:q.data.toList[k]?=some q[k]:=S.zad q k hlt;have hI2:(k:Int)<(q.size:Int):=(by omega);by_cases h1:q[k]=96
       ·have q1:((q[k].toNat:Int) == 96)=true:=(by simp[h1]);have hE:=hid (hno.out (by have:=List.mem_of_getElem? gq;rwa [h1] at this));clear gq hall h1;go_wp2;go_ret3
        exact⟨0,0,⟨#[]⟩,rfl,hE,rfl⟩
       ·have q1:((q[k].toNat:Int) == 96)=false:=by
         rw[Qe];intro h;exact h1 (Qk.1 (by show q[k].toNat=96;omega))
        have dx:Hid (∀j,j<k+1->q.data.toList[j]?≠some 96):=hid (by
         intro j hj;by_cases e:j=k
         ·subst e;rw[gq];simpa using h1
         ·exact hall j (by omega))
        clear gq hall h1;go_wp2;exact⟨⟨k+1,by omega,by go_num,dx.out⟩,by simp[intOf];omega⟩
      ·have hE:Hid (zfi s.data.toList 96 n q):=hid (by
        rcases hok.out with h|h
        ·exact h
        ·exfalso
         obtain⟨j,hj⟩:=List.getElem?_of_mem h;have hjl:=(Qb.1 hj).1;rw[S.lda] at hjl;exact hall j (by omega) hj)
       have hI2:¬(k:Int)<(q.size:Int):=(by omega);clear hall;go_wp2;go_ret3
       exact⟨96,n,q,rfl,hE,rfl⟩
    ·subst h;have hE:Hid (zfi s.data.toList 126 n q):=hid (by
      refine⟨by omega,?_⟩;rw[hF1 (.inr rfl)];have:S.zcj 126 n info=true:=(by unfold S.zcj;rw[decide_eq_true (show 3<=n by omega)];rfl);rw[if_pos this];exact⟨rfl,rfl,hq.symm⟩)
     clear hsh hrd hg hI hR hM hn hBa hF1 fq dh bg hq dw hrs h3;go_enter func91,ntmps91;go_wp2_with (fail);refine jg.out.mono ?_;rintro e w'⟨rfl,rfl⟩;go_wp2_with (fail);refine gy.out.mono ?_;rintro e w'⟨rfl,rfl⟩;go_wp2_with (fail);refine jd.out.mono ?_;rintro e w'⟨rfl,rfl⟩;go_wp2_with (fail);refine jh.out.mono ?_;rintro e w'⟨rfl,rfl⟩;go_wp2;go_loop [10] (λi=>∃k:Nat,k<=q.size/\i=.int .i64 k) (λi=>q.size-(intOf i).toNat)
     case atStart=>exact⟨0,Qt _,rfl⟩
     case round=>
      obtain⟨k,hk,rfl⟩:=hrel;by_cases hlt:k<q.size
      ·have hI2:(k:Int)<(q.size:Int):=(by omega);go_wp2;exact⟨⟨k+1,by omega,by go_num⟩,by simp[intOf];omega⟩
      ·have hI2:¬(k:Int)<(q.size:Int):=(by omega);go_wp2;go_ret3
       exact⟨126,n,q,rfl,hE,rfl⟩
  ·have hE:Hid (zfi s.data.toList 0 0 ⟨#[]⟩):=hid ⟨by omega,by
    rw[fq (λh=>hm (.inl h)) (λh=>hm (.inr h))];rfl⟩
   have e1:((c.toNat:Int) != 96)=true:=by rw[bne_iff_ne];intro h;exact hm (.inl (Qk.1 (by show c.toNat=96;omega)))
   have e2:((c.toNat:Int) != 126)=true:=by rw[bne_iff_ne];intro h;exact hm (.inr (Qk.1 (by show c.toNat=126;omega)))
   clear hsh hrd hg hI hR hM hn hBa hF1 fq dh bg hq dw hrs hm;go_enter func91,ntmps91;go_wp2_with (fail);refine jg.out.mono ?_;rintro e w'⟨rfl,rfl⟩;go_wp2_with (fail);refine gy.out.mono ?_;rintro e w'⟨rfl,rfl⟩;go_wp2_with (fail);refine jd.out.mono ?_;rintro e w'⟨rfl,rfl⟩;go_wp2;go_ret3
   exact⟨0,0,⟨#[]⟩,rfl,hE,rfl⟩
end Go.Proofs.YtlojgpkajkedeaaGreatDoor
