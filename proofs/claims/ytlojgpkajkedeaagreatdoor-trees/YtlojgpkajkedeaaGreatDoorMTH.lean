import Derived.Test.YtlojgpkajkedeaaGreatDoorMC7
import Derived.Test.YtlojgpkajkedeaaGreatDoorME24
import Derived.Test.YtlojgpkajkedeaaGreatDoorMTD
import Derived.Test.YtlojgpkajkedeaaGreatDoorMTF
import Derived.Test.YtlojgpkajkedeaaGreatDoorMRQ
import Derived.Maps.AppendAt
import Derived.Deep.AppendLies
import Derived.Laws.AppendOwnNone
namespace Go.Proofs.YtlojgpkajkedeaaGreatDoor
open Go.RowKit
mutual
def zo6 (d:Nat):Rn→List Nd
 | .nd k n i t _ ks=>⟨(d:Int),k,n,S.B i,S.B t⟩ :: zbv (d+1) ks
def zbv (d:Nat):List Rn→List Nd
 | []=>[]
 | n::r=>zo6 d n++zbv d r
end
theorem znu (d:Nat) (a b:List Rn):zbv d (a++b)=zbv d a++zbv d b:=by
 induction a with
 | nil=>rfl
 | cons x r ih=>simp only[List.cons_append,zbv,ih,List.append_assoc]
theorem zwn (k:Int) (t:List UInt8) (lo:Bool):S.B (zcq k t lo)=textOf k (S.B t) lo:=by
 unfold zcq textOf
 by_cases h3:k=3
 ·simp[h3]
 ·by_cases h6:k=6
  ·subst h6;cases lo <;> rfl
  ·simp[h3,h6];rfl
mutual
def nkB:S.Blk→Prop
 | .at_ _ k _ _ _ _ ks=>(k=1∨k=2→ks=[])∧nkL ks
def nkL:List S.Blk→Prop
 | []=>True
 | b::r=>nkB b∧nkL r
end
theorem z04 (k:Int) (b:S.Blk):nkB (b.put k)↔nkB b:=by
 cases b
 simp only[S.Blk.put,nkB]
theorem zzl (sub:List (List UInt8)→List S.Blk × Bool) (hs:∀ x,nkL (sub x).1) (kind:UInt8) (Z f:Nat) (m:S.Mark) (row:List (List UInt8)):nkL (S.zam sub kind Z f m row).1:=by
 induction f generalizing m row with
 | zero=>simp only[S.zam,nkL]
 | succ f ih=>
  rw[S.zda]
  split
  ·simp only[nkL,nkB]
   exact ⟨⟨fun h=>by omega,hs _⟩,ih _ _⟩
  ·simp only[nkL,nkB]
   exact ⟨⟨fun h=>by omega,hs _⟩,trivial⟩
theorem zxi (sub:List (List UInt8)→List S.Blk × Bool) (hs:∀ x,nkL (sub x).1) (x:List UInt8) (r:List (List UInt8)):nkB (S.zah sub (x::r)).1:=by
 unfold S.zah
 dsimp only
 split
 ·exact ⟨fun _=>rfl,trivial⟩
 split
 ·exact ⟨fun _=>rfl,trivial⟩
 split
 ·exact ⟨fun _=>rfl,trivial⟩
 split
 ·exact ⟨fun _=>rfl,trivial⟩
 split
 ·exact ⟨fun h=>by have h:(5:Int)=1∨(5:Int)=2:=h;omega,hs _⟩
 split
 ·rw[S.zf0]
  exact ⟨fun h=>by have h:(6:Int)=1∨(6:Int)=2:=h;omega,zzl sub hs _ _ _ _ _⟩
 ·have hp:=S.zns (x::r)
  obtain ⟨b,hb⟩:∃ b,(S.za8 (x::r)).1=b:=⟨_,rfl⟩
  rw[hb] at hp ⊢
  obtain ⟨z,k,n,i,t,lo,kids⟩:=b
  have hp2:kids=[]:=hp.2
  subst hp2
  exact ⟨fun _=>rfl,trivial⟩
theorem zul (sub:List (List UInt8)→List S.Blk × Bool) (hs:∀ x,nkL (sub x).1) (Z f:Nat) (row:List (List UInt8)):nkL (S.rowFrom sub Z f row).1:=by
 induction f generalizing row with
 | zero=>simp only[S.rowFrom,nkL]
 | succ f ih=>
  cases row with
  | nil=>rw[S.zeb];simp only[nkL]
  | cons x r=>
   rw[S.zek _ _ _ _ (by simp)]
   exact ⟨(z04 _ _).2 (zxi sub hs x r),ih _⟩
theorem zu6 (e:Nat) (row:List (List UInt8)):nkL (S.za2 e row).1:=by
 induction e generalizing row with
 | zero=>simp only[S.za2,nkL]
 | succ e ih=>
  rw[show S.za2 (e+1) row=S.rowFrom (S.za2 e) row.length row.length (row.drop (S.za5 row)) from rfl]
  exact zul (S.za2 e) ih _ _ _
theorem zs3 (d:Nat):ROK (fun s ns=>WTo s [] 0 ns) d:=zzv _ zrf (fun d h=>zwx _ d h) d
mutual
theorem MatB.mono {C E:List UInt8→List Rn→Prop} (h:∀ s ns,C s ns→E s ns) {z:Int} {b:S.Blk} {n:Rn} (hm:MatB C z b n):MatB E z b n:=by
 cases b with
 | at_ li k m i t lo ks=>
  cases n with
  | nd k' m' i' t' l' ks'=>
   simp only[MatB] at hm ⊢
   refine ⟨hm.1,hm.2.1,hm.2.2.1,hm.2.2.2.1,hm.2.2.2.2.1,?_⟩
   have h6:=hm.2.2.2.2.2
   by_cases hk:k=1∨k=2
   ·rw[if_pos hk] at h6 ⊢;exact h _ _ h6
   ·rw[if_neg hk] at h6 ⊢;exact MatL.mono h h6
theorem MatL.mono {C E:List UInt8→List Rn→Prop} (h:∀ s ns,C s ns→E s ns) {z:Int} {bs:List S.Blk} {ns:List Rn} (hm:MatL C z bs ns):MatL E z bs ns:=by
 cases bs with
 | nil=>
  cases ns with
  | nil=>trivial
  | cons n s=>simp only[MatL] at hm
 | cons b r=>
  cases ns with
  | nil=>simp only[MatL] at hm
  | cons n s=>
   simp only[MatL] at hm ⊢
   exact ⟨MatB.mono h hm.1,MatL.mono h hm.2⟩
end
mutual
def cntR:Rn→Nat
 | .nd _ _ _ _ _ ks=>1+zde ks
def zde:List Rn→Nat
 | []=>0
 | n::r=>cntR n+zde r
end
theorem zjr (a b:List Rn):zde (a++b)=zde a+zde b:=by
 induction a with
 | nil=>simp[zde]
 | cons x r ih=>simp only[List.cons_append,zde,ih,Nat.add_assoc]
theorem zxz (n:Rn):1≤cntR n:=by cases n;simp only[cntR];omega
theorem zwe (l:List Rn):l.length≤zde l:=by
 induction l with
 | nil=>simp
 | cons x r ih=>have:=zxz x;simp only[List.length_cons,zde];omega
theorem zvj (l:List Rn) (i:Nat) (t:Rn) (h:l[i]?=some t):cntR t≤zde l:=by
 induction l generalizing i with
 | nil=>simp at h
 | cons x r ih=>
  simp only[zde]
  cases i with
  | zero=>simp at h;subst h;omega
  | succ i=>have:=ih i (by simpa using h);omega
mutual
theorem zve (d:Nat) (n:Rn):(zo6 d n).length=cntR n:=by
 cases n with
 | nd k n i t l ks=>simp only[zo6,cntR,List.length_cons];rw[zfg (d+1) ks];omega
theorem zfg (d:Nat) (l:List Rn):(zbv d l).length=zde l:=by
 cases l with
 | nil=>rfl
 | cons x r=>simp only[zbv,zde,List.length_append];rw[zve d x,zfg d r]
end
def pwt (p:RPt):Nat:=if p.what=1 then cntR p.node else p.s.length+p.left
def pwts (l:List RPt):Nat:=(l.map pwt).sum
theorem zb6 (a b:List RPt):pwts (a++b)=pwts a+pwts b:=by simp[pwts]
theorem zei (p:RPt) (r:List RPt):pwts (p::r)=pwt p+pwts r:=by simp[pwts]
theorem zya:pwts []=0:=rfl
theorem zdz (p:RPt):pwts [p]=pwt p:=by simp[pwts]
theorem zn9 (t:List UInt8):zde (zhh t)≤t.length:=by
 unfold zhh
 split
 ·simp[zde]
 ·rename_i h
  have:0<t.length:=by
   cases t with
   | nil=>exact absurd rfl h
   | cons=>simp
  simp only[zde,cntR];omega
theorem zmx (l:List RPt) (t:List UInt8):zde (zd6 l t)≤t.length+pwts l:=by
 induction l generalizing t with
 | nil=>have:=zn9 t;simp only[zd6];omega
 | cons p r ih=>
  simp only[zd6]
  rw[zei]
  split
  ·rename_i hp
   have h1:=zn9 t
   have h2:=ih []
   rw[zjr]
   simp only[zde,pwt,if_pos hp,List.length_nil] at h2 ⊢
   omega
  ·rename_i hp
   have h2:=ih (t++p.s++List.replicate p.left p.c)
   simp only[pwt,if_neg hp,List.length_append,List.length_replicate] at h2 ⊢
   omega
theorem zkf (n:Rn):pwt (zcx n)=cntR n:=by simp[pwt,zcx]
theorem zpv (l:List RPt) (i:Nat):pwts (ze4 l i).1≤pwts l:=by
 unfold ze4
 cases hs:l[i]? with
 | none=>exact Nat.le_refl _
 | some s=>
  dsimp only
  split
  ·rename_i hsw
   cases hf:zbn l s i with
   | none=>exact Nat.le_refl _
   | some j=>
    obtain ⟨hji,q',hq',hop⟩:=zg6 l s i j hf
    dsimp only
    cases hq:l[j]? with
    | none=>exact Nat.le_refl _
    | some q=>
     dsimp only
     rw[hq] at hq'
     have:=Option.some.inj hq'
     subst this
     unfold ze0 at hop
     simp only[Bool.and_eq_true,decide_eq_true_iff] at hop
     have hsp:=zz4 l j i q s hji hq hs
     have hle:pwts l=pwts (l.take j)+(pwt q+(pwts ((l.take i).drop (j+1))+(pwt s+pwts (l.drop (i+1))))):=by
      rw[congrArg pwts hsp,zb6,zei,zb6,zei]
     unfold zk3
     rw[zb6,zei,zei,zei,zkf,hle]
     have hm:=zmx ((l.take i).drop (j+1)) []
     have hn:1≤zds q s:=by unfold zds;split <;> omega
     have hw:cntR (zhx (zds q s) ((l.take i).drop (j+1)))=1+zde (zd6 ((l.take i).drop (j+1)) []):=by unfold zhx;simp only[cntR]
     have hq1:pwt (zfh q (zds q s))+1≤pwt q:=by
      have h1:¬ q.what=1:=by rw[hop.1.1.1.1];decide
      have h2:¬ (zfh q (zds q s)).what=1:=h1
      simp only[pwt,if_neg h1,if_neg h2]
      show q.s.length+(q.left-zds q s)+1≤_
      have:=hop.1.2
      omega
     have hs1:pwt (zfh s (zds q s))≤pwt s:=by
      have h1:¬ s.what=1:=by rw[hsw.1];decide
      have h2:¬ (zfh s (zds q s)).what=1:=h1
      simp only[pwt,if_neg h1,if_neg h2]
      show s.s.length+(s.left-zds q s)≤_
      omega
     rw[hw]
     simp only[List.length_nil] at hm
     omega
  ·exact Nat.le_refl _
theorem ze7.cnt {l:List RPt} {i:Nat} {ns:List Rn} (h:ze7 l i ns):zde ns≤pwts l:=by
 induction h with
 | done l i h=>have:=zmx l [];simpa using this
 | step l i ns h hr ih=>exact Nat.le_trans ih (zpv l i)
theorem zxg (l:List RPt) (k:Nat) (q x:RPt) (hq:l[k]?=some q) (h:pwt x=pwt q):pwts (l.set k x)=pwts l:=by
 have hm:(l.set k x).map pwt=l.map pwt:=by
  rw[List.map_set]
  apply List.ext_getElem?
  intro i
  by_cases e:k=i
  ·subst e
   have hl:=(List.getElem?_eq_some_iff.1 hq).1
   rw[List.getElem?_set_self (by simpa using hl),List.getElem?_map,hq,h];rfl
  ·rw[List.getElem?_set_ne e]
 unfold pwts;rw[hm]
theorem zt9 (im:Bool) (x:RPt):pwt (zbi im x)=pwt x:=by
 unfold zbi
 split <;> rfl
theorem zrp (im:Bool) (l:List RPt):pwts (l.map (zbi im))=pwts l:=by
 induction l with
 | nil=>rfl
 | cons x r ih=>rw[List.map_cons,zei,zei,ih,zt9]
theorem zje (l:List RPt) (k:Nat):pwts (l.take k)+pwts (l.drop k)=pwts l:=by rw[← zb6,List.take_append_drop]
theorem zll (t:List UInt8):pwt (txtR t)=t.length:=by simp[pwt,txtR]
theorem zct.cnt {l l':List RPt} {t:List UInt8} {p p':Nat} (h:zct l t p l' p'):pwts l'≤pwts l+1:=by
 rcases h with ⟨_,h,_⟩|⟨k,q,hk,hq,_,h,_⟩|⟨k,q,ns,_,hq,_,_,hp,h,_⟩
 ·rw[h,zb6,zdz,zll];simp
 ·obtain ⟨_,q2,hq2,hw⟩:=zkp l l.length k hk
  rw[hq] at hq2
  have:=Option.some.inj hq2
  subst this
  rw[h,zb6,zdz,zll,zxg l k q _ hq (by
   have h1:¬ q.what=1:=by rw[hw];decide
   simp only[pwt,if_neg h1];rfl)]
  simp
 ·rw[h,zb6,zdz,zkf,zrp]
  have h1:=hp.cnt
  have h2:=zje l k
  have h3:=zje (l.drop k) 1
  rw[List.drop_drop] at h3
  simp only[cntR]
  omega
theorem zpm (l:List RPt) (k:Nat):pwts (l.take k)≤pwts l:=by have:=zje l k;omega
theorem S.zu7 (l:List UInt8) (c:UInt8) (h:l[0]?=some c):1≤S.same l∧S.same l≤l.length:=by
 cases l with
 | nil=>simp at h
 | cons x r=>
  have:=S.zii x (x::r)
  have h1:S.same (x::r)=S.cnt x (x::r):=rfl
  rw[h1]
  refine ⟨?_,this⟩
  simp only[S.cnt]
  simp
theorem zfv.cnt {t:List UInt8} {l l':List RPt} {i i':Nat} (h:zfv t l i l' i'):i<i'∧i'≤t.length∧pwts l'≤pwts l+2*(i' - i):=by
 obtain ⟨c,hc,h⟩:=h
 have hi:=(List.getElem?_eq_some_iff.1 hc).1
 have hd:(t.drop i)[0]?=some c:=by rw[List.getElem?_drop,Nat.add_zero];exact hc
 have hleaf:∀ k u,pwts [zg0 k u]=1:=fun k u=>by rw[zdz];unfold zg0;rw[zkf];rfl
 split at h
 ·rename_i h2
  have:=(List.getElem?_eq_some_iff.1 h2.2).1
  rw[h.1,h.2,zb6,hleaf];omega
 split at h
 ·rename_i h2
  have hi1:i+1<t.length:=by
   have h3:=h2.2
   cases e:t[i+1]? with
   | none=>rw[e] at h3;simp at h3
   | some x=>exact (List.getElem?_eq_some_iff.1 e).1
  rw[h.1,h.2,zb6,zdz,zll]
  have:((t.drop (i+1)).take 1).length≤1:=by rw[List.length_take];omega
  omega
 split at h
 ·rename_i h96
  subst h96
  have h1:1≤S.cnt 96 (t.drop i):=by
   cases hx:t.drop i with
   | nil=>rw[hx] at hd;simp at hd
   | cons x r=>rw[hx] at hd;simp at hd;subst hd;simp[S.cnt]
  have h2:=S.zii 96 (t.drop i)
  rw[List.length_drop] at h2
  split at h
  ·rename_i hg
   have:=zlf t i h1 hg
   rw[h.1,h.2,zb6,hleaf];omega
  ·rw[h.1,h.2,zb6,zdz,zll]
   have:((t.drop i).take (S.cnt 96 (t.drop i))).length≤S.cnt 96 (t.drop i):=by rw[List.length_take];omega
   omega
 split at h
 ·rename_i h2
  have:=zlp t i h2.2
  rw[h.1,h.2,zb6,zdz]
  unfold zmi
  rw[zkf]
  simp only[cntR,zde]
  omega
 split at h
 ·rw[h.1,h.2,zb6,hleaf]
  have:=zpm l (l.length-spB t i)
  omega
 split at h
 ·have hs:=S.zu7 _ c hd
  rw[List.length_drop] at hs
  rw[h.1,h.2,zb6,zdz]
  have:pwt (runR t i)=S.same (t.drop i):=by simp[pwt,runR]
  omega
 split at h
 ·rw[h.1,h.2,zb6,zdz]
  have:pwt (zgt [91] false)=1:=by simp[pwt,zgt]
  omega
 split at h
 ·rename_i h2
  have:=(List.getElem?_eq_some_iff.1 h2.2).1
  rw[h.1,h.2,zb6,zdz]
  have:pwt (zgt [33,91] true)=2:=by simp[pwt,zgt]
  omega
 split at h
 ·rename_i h93
  subst h93
  have h1:=h.place hc
  have h2:=h.cnt
  omega
 ·rw[h.1,h.2,zb6,zdz,zll]
  have:((t.drop i).take 1).length≤1:=by rw[List.length_take];omega
  omega
theorem WTo.cnt {t:List UInt8} {l:List RPt} {i:Nat} {ns:List Rn} (h:WTo t l i ns) (hi:i≤t.length) (hl:pwts l≤2*i):zde ns≤2*t.length:=by
 induction h with
 | done l i ns h hp=>have:=hp.cnt;omega
 | step l i l' i' ns hs hr ih=>have:=hs.cnt;exact ih this.2.1 (by omega)
mutual
theorem MatB.cnt {C:List UInt8→List Rn→Prop} (h:∀ s ns,C s ns→zde ns≤3*s.length) {z:Int} {b:S.Blk} {n:Rn} (hm:MatB C z b n):cntR n≤S.wtB b:=by
 cases b with
 | at_ li k m i t lo ks=>
  cases n with
  | nd k' m' i' t' l' ks'=>
   simp only[MatB] at hm
   have h6:=hm.2.2.2.2.2
   simp only[cntR,S.wtB]
   by_cases hk:k=1∨k=2
   ·rw[if_pos hk] at h6 ⊢;have:=h _ _ h6;omega
   ·rw[if_neg hk] at h6 ⊢;have:=MatL.cnt h h6;omega
theorem MatL.cnt {C:List UInt8→List Rn→Prop} (h:∀ s ns,C s ns→zde ns≤3*s.length) {z:Int} {bs:List S.Blk} {ns:List Rn} (hm:MatL C z bs ns):zde ns≤S.wtL bs:=by
 cases bs with
 | nil=>
  cases ns with
  | nil=>simp[zde]
  | cons n s=>simp only[MatL] at hm
 | cons b r=>
  cases ns with
  | nil=>simp only[MatL] at hm
  | cons n s=>
   simp only[MatL] at hm
   have h1:=MatB.cnt h hm.1
   have h2:=MatL.cnt h hm.2
   simp only[zde,S.wtL];omega
end
theorem zv9 (l:List UInt8) (f:Nat) (z:Int) (ns:List Rn) (hm:MatL (fun s ns=>WTo s [] 0 ns) z (S.za2 f (S.lines l)).1 ns):zde ns≤10*(2*l.length+1):=by
 have h1:=MatL.cnt (fun s ns h=>by have:=WTo.cnt h (Nat.zero_le _) (by rw[zya];omega);omega) hm
 have h2:=S.zmq f (S.lines l)
 have h3:=S.zkh l
 omega
theorem zqf (d:Nat) (l:List Rn) (k:Nat) (t:Rn) (h:l[k]?=some t):zbv d (l.take (k+1))=zbv d (l.take k)++zo6 d t:=by
 rw[List.take_add_one,h,znu];simp[zbv]
theorem zlo (d:Nat) (l:List Rn) (k:Nat):(zbv d (l.take k)).length≤zde l:=by
 have h:zde (l.take k)+zde (l.drop k)=zde l:=by rw[← zjr,List.take_append_drop]
 rw[zfg];omega
theorem zmk (a b:List Nd):zao (a++b)=zao a++zao b:=by simp[zao]
theorem zrw (l:List Nd):∀ u∈zao l,u.oneCell'=true:=by
 intro u hu
 simp only[zao,List.mem_flatten,List.mem_map] at hu
 obtain ⟨c,⟨x,_,rfl⟩,hu⟩:=hu
 simp[five] at hu
 rcases hu with rfl|rfl|rfl|rfl|rfl <;> rfl
set_option maxRecDepth 100000 in
set_option maxHeartbeats 8000000 in
theorem zvz (A:Nat→Prop) (w0:World) (hA:∀ x,A x→x<w0.heap.size) (v:Value) (ns:List Rn) (h:RepN w0 A v ns):∀ (w:World) (d:Nat),Below w0.heap.size w0 w→d+zde ns≤1000000 →
  Calls Tryz.prog 49 #[v,.int .i64 (d:Nat)] w fun e w'=>∃ a cp,e = .returned (.slice a (zbv d ns).length cp)∧zba w.heap.size a cp (zbv d ns) w'∧Below w.heap.size w w':=by
 obtain ⟨i0,hi,hz0,hz1,hz2⟩:=info_parts Tryz.zkk
 induction h with
 | nil=>
  intro w d hb hd
  clear hb hd
  go_enter Tryz.func49,Tryz.ntmps49
  go_wp2
  refine wp_loop_rounds 1 ?_
  rw[rounds_succ]
  go_wp2
  go_ret
  exact ⟨none,0,rfl,zba.nil _ _,Below.refl _ _⟩
 | some b o cap ns kv ha hcap hc hkk ih=>
  intro w d hb hd
  have hb0:=hA b ha
  have hbs:=hb.size
  have hbw:b<w.heap.size:=Nat.lt_of_lt_of_le hb0 hbs
  have hnl:=zwe ns
  have hlen:ns.length≤1000000:=by omega
  have hcH:=hid hc
  have hkkH:=hid hkk
  have ihH:=hid ih
  have hbH:=hid hb
  have hAH:=hid hA
  have hdH:=hid hd
  clear hc hkk ih hb hA ha
  go_enter Tryz.func49,Tryz.ntmps49
  go_wp2
  go_loopw [5,6,7] (fun ov iv _ wr=>∃ (k:Nat) (a:Option Addr) (cp:Nat),k≤ns.length∧iv = .int .i64 k∧ov = .slice a (zbv d (ns.take k)).length cp∧Hid (zba w.heap.size a cp (zbv d (ns.take k)) wr∧Below w.heap.size w wr)) (fun _ iv _ _=>ns.length-(intOf iv).toNat)
  case atStart=>exact ⟨0,none,0,Nat.zero_le _,rfl,by simp[zbv],hid ⟨by simpa [zbv] using zba.nil _ _,Below.refl _ _⟩⟩
  case round=>
   obtain ⟨k,a,cp,hk,rfl,rfl,hr⟩:=hrel
   by_cases hlt:k<ns.length
   ·obtain ⟨t,ht⟩:∃ t,ns[k]?=some t:=⟨ns[k],List.getElem?_eq_getElem hlt⟩
    have hct:=hcH.out k t ht
    have hkids:=hkkH.out k t ht
    have ihk:=ihH.out k t ht
    have hfl:=zqf d ns k t ht
    have hll:=zlo d ns (k+1)
    have hgt:=zvj ns k t ht
    obtain ⟨ka,kn,kc,hkv⟩:=hkids.form
    rw[hkv] at hct ihk
    obtain ⟨L,hL⟩:∃ L,zbv d (ns.take k)=L:=⟨_,rfl⟩
    rw[hL] at hr hfl ⊢
    cases t with
    | nd kd n inf tx li ks=>
    simp only[zo6] at hfl
    simp only[cntR] at hgt
    simp only[Rn.kids] at ihk hkids
    obtain ⟨nd,hnd⟩:∃ nd:Nd,nd=⟨(d:Int),kd,n,S.B inf,S.B tx⟩:=⟨_,rfl⟩
    rw[← hnd] at hfl
    rw[hfl,List.length_append,List.length_cons,zfg] at hll
    have hbr:Below w.heap.size w wr:=hr.out.2
    have hwr:w.heap.size≤wr.heap.size:=hbr.size
    have hcell:∀ j u,(rn7 (.nd kd n inf tx li ks) (.slice ka kn kc))[j]?=some u→wr.cell? ⟨b,o+k*7+j,none⟩=some u:=fun j u hu=>
     (hbr.cell (p:=⟨b,o+k*7+j,none⟩) hbw).trans ((hbH.out.cell (p:=⟨b,o+k*7+j,none⟩) hb0).trans (hct j u hu))
    have c0:wr.cell? ⟨b,o+k*7,none⟩=some (.int .i64 0):=hcell 0 _ rfl
    have c1:wr.cell? ⟨b,o+k*7+1,none⟩=some (.int .i64 kd):=hcell 1 _ rfl
    have c2:wr.cell? ⟨b,o+k*7+2,none⟩=some (.int .i64 n):=hcell 2 _ rfl
    have c3:wr.cell? ⟨b,o+k*7+3,none⟩=some (.string (S.B inf)):=hcell 3 _ rfl
    have c4:wr.cell? ⟨b,o+k*7+4,none⟩=some (.string (S.B tx)):=hcell 4 _ rfl
    have c6H:Hid (wr.cell? ⟨b,o+k*7+6,none⟩=some (.slice ka kn kc)):=hid (hcell 6 _ rfl)
    have hJ1:(k:Int)<(ns.length:Int):=by omega
    have hJ0:(0:Int)≤(k:Int):=by omega
    have ihkH:=hid ihk
    have hflH:=hid hfl
    have hndH:=hid hnd
    have hllH:=hid hll
    have hgtH:=hid hgt
    clear hct hkids ihk hkv hcell hL ht hfl hnd hll hgt hbr
    go_upto_region 6 with fail
    obtain ⟨W2,hW2⟩:∃ W2,W2=wr.alloc (.cells #[.int .i64 0,.int .i64 kd,.int .i64 n,.string (S.B inf),.string (S.B tx)] 36):=⟨_,rfl⟩
    rw[← hW2]
    have hb2:Below wr.heap.size wr W2:=by rw[hW2];exact (Below.refl _ _).alloc (Nat.le_refl _) _
    have hs2:W2.heap.size=wr.heap.size+1:=by rw[hW2];simp
    have hx2:W2.heap[wr.heap.size]?=some (.cells #[.int .i64 0,.int .i64 kd,.int .i64 n,.string (S.B inf),.string (S.B tx)] 36 (0,0)):=by rw[hW2];exact za1 _ _
    have d0:W2.cell? ⟨wr.heap.size,0,none⟩=some (.int .i64 0):=za0 hx2 0 _ rfl
    have f0:=za7 hx2 0
    obtain ⟨W3,hW3⟩:∃ W3,W3=W2.setCell ⟨wr.heap.size,0,none⟩ (.int .i64 (d:Int)):=⟨_,rfl⟩
    have hx3:W3.heap[wr.heap.size]?=some (.cells #[.int .i64 (d:Int),.int .i64 kd,.int .i64 n,.string (S.B inf),.string (S.B tx)] 36 (0,0)):=by rw[hW3];exact za3 (cs:=[.int .i64 0,.int .i64 kd,.int .i64 n,.string (S.B inf),.string (S.B tx)]) hx2 0 _
    have hb3:Below wr.heap.size wr W3:=by rw[hW3];exact hb2.setCell (p:=⟨wr.heap.size,0,none⟩) (Nat.le_refl _) _
    have hs3:W3.heap.size=wr.heap.size+1:=by rw[hW3];simp[World.setCell,hs2]
    have hW3H:=hid hW3
    have hx3H:=hid hx3
    have hb3H:=hid hb3
    have hs3H:=hid hs3
    clear hW2 hb2 hs2 hx2 hW3 hx3 hb3 hs3 c0 c1 c2 c3 c4
    go_upto_region 7 with fail
    rw[← hW3H.out]
    clear d0 f0
    have q0:W3.cell? ⟨wr.heap.size,0,none⟩=some (.int .i64 (d:Int)):=za0 hx3H.out 0 _ rfl
    have q1:W3.cell? ⟨wr.heap.size,1,none⟩=some (.int .i64 kd):=za0 hx3H.out 1 _ rfl
    have q2:W3.cell? ⟨wr.heap.size,2,none⟩=some (.int .i64 n):=za0 hx3H.out 2 _ rfl
    have q3:W3.cell? ⟨wr.heap.size,3,none⟩=some (.string (S.B inf)):=za0 hx3H.out 3 _ rfl
    have q4:W3.cell? ⟨wr.heap.size,4,none⟩=some (.string (S.B tx)):=za0 hx3H.out 4 _ rfl
    have hLl:L.length+1≤1000000:=by have:=hllH.out;have:=hdH.out;omega
    have hown3:Hid (∀ ob,(W3.alloc ob).ownsRow w.heap.size 36 5 (.slice a L.length cp) L.length (zao L)):=hid (fun ob=>zba.alloc (zba.below hr.out.1 hb3H.out) ob)
    have hnew:Hid (∀ j u,(five nd)[j]?=some u→(W3.alloc (.cells #[.int .i64 (d:Int),.int .i64 kd,.int .i64 n,.string (S.B inf),.string (S.B tx)] 36)).cell? ((⟨W3.heap.size,0,none⟩:Addr).add j)=some u):=hid (fun j u hj=>World.news_of_block (za1 _ _) j u (by rw[hndH.out] at hj;exact hj))
    have hone:Hid (∀ u∈five nd,u.oneCell'=true):=hid (by
     intro u hu;rw[hndH.out] at hu;simp[five] at hu;rcases hu with rfl|rfl|rfl|rfl|rfl <;> rfl)
    have hbX:Hid (∀ ob,Below w.heap.size w (W3.alloc ob)):=hid (fun ob=>(hr.out.2.trans (hb3H.out.mono hwr)).alloc (by have:=hs3H.out;omega) ob)
    have hltr:Hid (∀ g,(Value.slice a L.length cp).ownBlock=some g→w.heap.size≤g):=hid (fun g hg=>(hr.out.1.lt g hg).1)
    have hs3w:w.heap.size≤W3.heap.size:=by have:=hs3H.out;omega
    go_wp2_with (at_builtin;refine wpList_append_lies _ (by rfl) _ _ 22 (by rfl) w.heap.size 36 i0 (.agg #[.int .i64 0,.int .i64 0,.int .i64 0,.string ⟨#[]⟩,.string ⟨#[]⟩]) 5 56 Tryz.underlying22 hi hz0 hz1 hz2 (by rfl) (by omega) (.slice a L.length cp) L.length (zao L) (by rfl) (hown3.out _) ⟨W3.heap.size,0,none⟩ 1 1 (five nd) (by rfl) (by rfl) hnew.out hone.out (by omega) (by unfold maxLen;omega) (by omega) (by simp;omega) (W3.heap.size+1) (by simp) ?_)
    intro g cap1 w4 hown4 hgrow4 hat4 hlt4
    have hb4:Hid (Below w.heap.size w w4):=hid (Below.grown (hbX.out _) hgrow4 (by simp;omega) (fun q hq=>hltr.out q hq))
    have hown4H:Hid (zba w.heap.size (some ⟨g,0,none⟩) cap1 (L++[nd]) w4):=hid (by
     unfold zba
     rw[zgq,List.length_append]
     exact hown4)
    have hz4:w.heap.size≤w4.heap.size:=hb4.out.size
    have c6:w4.cell? ⟨b,o+k*7+6,none⟩=some (.slice ka kn kc):=(hb4.out.cell (p:=⟨b,o+k*7+6,none⟩) hbw).trans ((hr.out.2.cell (p:=⟨b,o+k*7+6,none⟩) hbw).symm.trans c6H.out)
    have hIK:=ihkH.out w4 (d+1) (hbH.out.trans (hb4.out.mono hbs)) (by have:=hgtH.out;have:=hdH.out;omega)
    rw[show ((d+1:Nat):Int)=(d:Int)+1 from by omega] at hIK
    obtain ⟨K,hK⟩:∃ K,zbv (d+1) ks=K:=⟨_,rfl⟩
    rw[hK] at hIK
    have hflK:Hid (zbv d (ns.take (k+1))=(L++[nd])++K):=hid (by rw[hflH.out,hK];simp)
    have hKl:L.length+1+K.length≤1000000:=by
     have h1:=hllH.out
     have h2:=hdH.out
     rw[← hK,zfg];omega
    have hIKH:=hid hIK
    have hdI:(d:Int)+1≤1000001:=by have:=hdH.out;omega
    clear hown4 hgrow4 hat4 hlt4 hIK hK q0 q1 q2 q3 q4
    go_wp2_with fail
    refine hIKH.out.mono ?_
    rintro e w5 ⟨a5,cp5,rfl,hown5,hb5⟩
    have hz5:w4.heap.size≤w5.heap.size:=hb5.size
    have hown5L:Hid (w5.ownsRow w.heap.size 36 5 (.slice (some ⟨g,0,none⟩) (L.length+1) cap1) (L.length+1) (zao (L++[nd]))):=hid (by
     have:=hown4H.out.below hb5
     unfold zba at this
     rw[List.length_append] at this
     exact this)
    have hb5w:Hid (Below w.heap.size w w5):=hid (hb4.out.trans (hb5.mono hz4))
    by_cases hK0:K=[]
    ·subst hK0
     have ha5:(a5=none∧cp5=0)∨∃ g5,a5=some ⟨g5,0,none⟩:=by
      rcases hown5.2 with ⟨h1,_⟩|⟨g5,cap5,cur5,h1,_⟩
      ·injection h1 with e1 e2 e3;exact .inl ⟨e1,e3⟩
      ·injection h1 with e1;exact .inr ⟨g5,e1⟩
     rw[List.length_nil]
     rcases ha5 with ⟨rfl,rfl⟩|⟨g5,rfl⟩
     ·have hflH2:Hid (zbv d (ns.take (k+1))=L++[nd]):=hid (by rw[hflK.out,List.append_nil])
      clear hown5 hb5
      go_wp2_with (at_builtin;refine wpList_append_own_none (by rfl) _ _ 22 (by rfl) w.heap.size 36 i0 5 Tryz.underlying22 hi (.slice (some ⟨g,0,none⟩) (L.length+1) cap1) (L.length+1) (zao (L++[nd])) (by rfl) hown5L.out (by rfl) ?_)
      go_roundw
      case rel=>exact ⟨k+1,some ⟨g,0,none⟩,cap1,by omega,by go_num,by rw[hflH2.out,List.length_append];rfl,hid ⟨by
       rw[hflH2.out];unfold zba;rw[List.length_append];exact hown5L.out,hb5w.out⟩⟩
      case measure=>simp[intOf];omega
     ·have hflH2:Hid (zbv d (ns.take (k+1))=L++[nd]):=hid (by rw[hflK.out,List.append_nil])
      clear hown5 hb5
      go_wp2_with (at_builtin;refine wpList_append_own_at _ (by rfl) _ _ 22 (by rfl) w.heap.size 36 i0 (.agg #[.int .i64 0,.int .i64 0,.int .i64 0,.string ⟨#[]⟩,.string ⟨#[]⟩]) 5 56 Tryz.underlying22 hi hz0 hz1 hz2 (by rfl) (by omega) (.slice (some ⟨g,0,none⟩) (L.length+1) cap1) (L.length+1) (zao (L++[nd])) (by rfl) hown5L.out ⟨g5,0,none⟩ 0 cp5 [] (by rfl) (by rfl) (fun j u h=>by simp at h) (fun u h=>by simp at h) (by unfold maxLen;omega) (by omega) (by omega) ?_)
      intro v6 w6 hown6 hgrow6 hnil6 hat6
      have hv6:∃ g6 cap6,v6 = .slice (some ⟨g6,0,none⟩) (L.length+1) cap6:=by
       rcases hown6.2 with ⟨_,h2⟩|⟨g6,cap6,cur6,h1,_⟩
       ·omega
       ·exact ⟨g6,cap6,h1⟩
      obtain ⟨g6,cap6,rfl⟩:=hv6
      have hb6:Hid (Below w.heap.size w w6):=hid (Below.grown hb5w.out hgrow6 (by omega) (fun q hq=>(hown5L.out.lt q hq).1))
      have hown6H:=hid hown6
      clear hown6 hgrow6 hnil6 hat6
      go_wp2
      go_roundw
      case rel=>exact ⟨k+1,some ⟨g6,0,none⟩,cap6,by omega,by go_num,by rw[hflH2.out,List.length_append];rfl,hid ⟨by
       rw[hflH2.out];unfold zba;rw[List.length_append];exact hown6H.out,hb6.out⟩⟩
      case measure=>simp[intOf];omega
    ·have hKpos:0<K.length:=List.length_pos_iff.2 hK0
     obtain ⟨g5,rfl,hg5,hcp5,_⟩:=zba.some hown5 hKpos
     have hnews:Hid (∀ j u,(zao K)[j]?=some u→w5.cell? ((⟨g5,0,none⟩:Addr).add j)=some u):=hid (fun j u hu=>World.ownsRow.cells hown5 (g:=g5) rfl j u hu)
     have hlenK:(zao K).length=K.length*5:=hown5.1
     have honeK:Hid (∀ u∈zao K,u.oneCell'=true):=hid (zrw K)
     clear hown5 hb5
     go_wp2_with (at_builtin;refine wpList_append_lies _ (by rfl) _ _ 22 (by rfl) w.heap.size 36 i0 (.agg #[.int .i64 0,.int .i64 0,.int .i64 0,.string ⟨#[]⟩,.string ⟨#[]⟩]) 5 56 Tryz.underlying22 hi hz0 hz1 hz2 (by rfl) (by omega) (.slice (some ⟨g,0,none⟩) (L.length+1) cap1) (L.length+1) (zao (L++[nd])) (by rfl) hown5L.out ⟨g5,0,none⟩ K.length cp5 (zao K) (by rfl) hlenK hnews.out honeK.out hKpos (by unfold maxLen;omega) (by omega) (by omega) w5.heap.size rfl ?_)
     intro g6 cap6 w6 hown6 hgrow6 hat6 hlt6
     have hb6:Hid (Below w.heap.size w w6):=hid (Below.grown hb5w.out hgrow6 (by omega) (fun q hq=>(hown5L.out.lt q hq).1))
     have hown6H:=hid hown6
     clear hown6 hgrow6 hat6 hlt6
     go_wp2
     go_roundw
     case rel=>exact ⟨k+1,some ⟨g6,0,none⟩,cap6,by omega,by go_num,by rw[hflK.out,List.length_append,List.length_append];rfl,hid ⟨by
      rw[hflK.out];unfold zba;rw[zmk,List.length_append,List.length_append];exact hown6H.out,hb6.out⟩⟩
     case measure=>simp[intOf];omega
   ·have hkl:k=ns.length:=by omega
    subst hkl
    rw[List.take_length] at hr ⊢
    go_wp2
    go_ret
    exact ⟨a,cp,rfl,hr.out.1,hr.out.2⟩
set_option maxHeartbeats 1000000 in
theorem zsc (w:World):Calls Tryz.prog 47 #[.slice none 0 0] w fun e w'=>e = .returned (.tuple #[.slice none 0 0,.bool false])∧w=w':=by
 go_enter Tryz.func47,Tryz.ntmps47
 go_wp2
 refine wp_loop_rounds 1 ?_
 rw[rounds_succ]
 go_wp2
 go_ret2
 exact ⟨rfl,rfl⟩
theorem z0n (ss:List ByteArray):tot ss=S.tt (dat ss):=by
 rw[zwb]
 generalize dat ss=r
 induction r with
 | nil=>rfl
 | cons x r ih=>rw[List.map_cons,List.sum_cons,S.zd4,ih]
theorem zxe (s:ByteArray) (w:World) (hs:s.size≤1500) (os:List Ln) (a:Option Addr) (cp B:Nat) (hd:datL os=S.lines s.data.toList) (hn:Num 0 os) (hown:w.ownsRow B 116 2 (.slice a os.length cp) os.length (zbx os)) :
  Calls Tryz.prog 47 #[.slice a os.length cp] w fun e w'=>∃ (ka:Option Addr) (kn kc:Nat) (g:Bool) (ns:List Rn),e = .returned (.tuple #[.slice ka kn kc,.bool g])∧Hid (RepN w' (fun x=>x<w'.heap.size) (.slice ka kn kc) ns∧MatL (fun s ns=>WTo s [] 0 ns) 0 (S.za2 (s.size+1) (S.lines s.data.toList)).1 ns∧Below w.heap.size w w'):=by
 have ht:tot (zce os)≤1000000:=by
  rw[z0n]
  show S.tt (datL os)≤_
  rw[hd]
  have:=S.zkh s.data.toList
  rw[S.length_data] at this
  omega
 rcases hown.2 with ⟨h1,h2⟩|⟨g,cap,cur,h1,h2,h3,h4,h5,h6,h7⟩
 ·have h0:os=[]:=List.length_eq_zero_iff.1 h2
  subst h0
  injection h1 with e1 e2 e3
  subst e1 e3
  have hl:S.lines s.data.toList=[]:=by rw[← hd];rfl
  refine (zsc w).mono ?_
  rintro e w' ⟨rfl,rfl⟩
  refine ⟨none,0,0,false,[],rfl,hid ⟨.nil,?_,Below.refl _ _⟩⟩
  rw[hl]
  exact trivial
 ·injection h1 with e1 e2 e3
  subst e1 e3
  have hg:g<w.heap.size:=(Array.getElem?_eq_some_iff.1 h3).1
  have hrow:RowL w g 0 os:=by
   by_cases hpos:0<os.length
   ·obtain ⟨g',he,_,_,_,hrow⟩:=zrs hown ht hpos
    cases he;exact hrow
   ·have h0:os=[]:=List.length_eq_zero_iff.1 (by omega)
    subst h0
    exact ⟨fun i p h=>by simp at h,ht⟩
  have hb:bytes (datL os)<s.size+1:=by
   rw[hd]
   have:=S.zl9 s.data.toList
   rw[S.length_data] at this
   omega
  refine (zs3 (s.size+1) g 0 cp os 0 w h4 hg hrow hn hb).mono ?_
  rintro e w' ⟨v,ns,rfl,hrep,hM,hbl⟩
  obtain ⟨ka,kn,kc,rfl⟩:=hrep.form
  exact ⟨ka,kn,kc,_,ns,rfl,hid ⟨hrep.move (fun x hx=>hx.2) (fun _ _=>rfl),by rw[← hd];exact hM.out,hbl⟩⟩
set_option maxHeartbeats 4000000 in
theorem zwi (s:ByteArray) (w:World) (hs:s.size≤1500) :
  Calls Tryz.prog 15 #[.string s] w fun e w'=>∃ (B:Nat) (a:Option Addr) (cp:Nat) (ns:List Rn),e = .returned (.tuple #[.slice a (zbv 0 ns).length cp,.int .i64 0])∧Hid (w.heap.size≤B∧zba B a cp (zbv 0 ns) w'∧Below w.heap.size w w'∧MatL (fun s ns=>WTo s [] 0 ns) 0 (S.za2 (s.size+1) (S.lines s.data.toList)).1 ns):=by
 have hL:=hid (ztr s w (by omega))
 have hs2:¬ (1500:Int)<(s.size:Int):=by omega
 go_enter Tryz.func15,Tryz.ntmps15
 go_wp2_with fail
 refine hL.out.mono ?_
 rintro e w1 ⟨os,a1,cp1,rfl,hdat,hown1,hb1⟩
 have hB:=hid (zxe s w1 hs os a1 cp1 w.heap.size hdat.out.1 hdat.out.2 hown1)
 have hb1H:=hid hb1
 have hz1:w.heap.size≤w1.heap.size:=hb1.size
 clear hown1 hb1 hdat
 go_wp2_with fail
 refine hB.out.mono ?_
 rintro e w2 ⟨ka,kn,kc,g,ns,rfl,hU⟩
 have hz2:w1.heap.size≤w2.heap.size:=hU.out.2.2.size
 have hsm:=zv9 s.data.toList (s.size+1) 0 ns hU.out.2.1
 rw[S.length_data] at hsm
 have hF:=zvz (fun x=>x<w2.heap.size) w2 (fun x h=>h) _ ns hU.out.1 w2 0 (Below.refl _ _) (by omega)
 have hFH:=hid hF
 clear hF hsm
 go_wp2_with fail
 refine hFH.out.mono ?_
 rintro e w3 ⟨a,cp,rfl,hown,hb3⟩
 have hfin:Hid (w.heap.size≤w2.heap.size∧zba w2.heap.size a cp (zbv 0 ns) w3∧Below w.heap.size w w3∧MatL (fun s ns=>WTo s [] 0 ns) 0 (S.za2 (s.size+1) (S.lines s.data.toList)).1 ns):=
  hid ⟨by omega,hown,hb1H.out.trans ((hU.out.2.2.mono hz1).trans (hb3.mono (by omega))),hU.out.2.1⟩
 clear hown hb3
 go_wp2
 go_ret2
 exact ⟨w2.heap.size,a,cp,ns,rfl,hfin⟩
set_option maxHeartbeats 2000000 in
theorem ztb (s:ByteArray) (w:World) (hs:1500<s.size) :
  Calls Tryz.prog 15 #[.string s] w fun e w'=>e = .returned (.tuple #[.slice none 0 0,.int .i64 1])∧w=w':=by
 have hs2:(1500:Int)<(s.size:Int):=by omega
 go_enter Tryz.func15,Tryz.ntmps15
 go_wp2
 go_ret2
 exact ⟨rfl,rfl⟩
set_option maxRecDepth 100000 in
set_option maxHeartbeats 4000000 in
theorem zge (B1 B2:Nat) (a1 a2:Option Addr) (cp1 cp2:Nat) (l:List Nd) (w:World) (h1:zba B1 a1 cp1 l w) (h2:zba B2 a2 cp2 l w) (hl:l.length≤1000000) :
  Calls Tryz.prog 16 #[.slice a1 l.length cp1,.slice a2 l.length cp2] w fun e w'=>e = .returned (.bool true)∧Below w.heap.size w w':=by
 have h1H:=hid h1
 have h2H:=hid h2
 clear h1 h2
 go_enter Tryz.func16,Tryz.ntmps16
 go_wp2
 go_loopw [5] (fun i wr=>∃ k:Nat,k≤l.length∧i = .int .i64 k∧Below w.heap.size w wr) (fun i _=>l.length-(intOf i).toNat)
 case atStart=>exact ⟨0,Nat.zero_le _,rfl,Below.refl _ _⟩
 case round=>
  obtain ⟨k,hk,rfl,hb⟩:=hrel
  by_cases hlt:k<l.length
  ·obtain ⟨x,hx⟩:∃ x,l[k]?=some x:=⟨l[k],List.getElem?_eq_getElem hlt⟩
   obtain ⟨g1,rfl,hg1,hg1l,c0,c1,c2,c3,c4⟩:=zno h1H.out k x hx
   obtain ⟨g2,rfl,hg2,hg2l,d0,d1,d2,d3,d4⟩:=zno h2H.out k x hx
   obtain ⟨xd,xk,xn,xi,xt⟩:=x
   have key:∀ g j,g<w.heap.size→wr.cell? ⟨g,j,none⟩=w.cell? ⟨g,j,none⟩:=fun g j hg=>hb.cell (p:=⟨g,j,none⟩) hg
   rw[← key _ _ hg1l] at c0 c1 c2 c3 c4
   rw[← key _ _ hg2l] at d0 d1 d2 d3 d4
   dsimp only at c0 c1 c2 c3 c4 d0 d1 d2 d3 d4
   have hi1:(k:Int)<(l.length:Int):=by omega
   have hi0:(0:Int)≤(k:Int):=by omega
   have hbH:=hid hb
   clear hb key hx
   go_wp2_with fail
   go_region
   go_wp2
   go_roundw
   case rel=>exact ⟨k+1,by omega,by go_num,hbH.out.drew⟩
   case measure=>simp[intOf];omega
  ·obtain rfl:k=l.length:=by omega
   have hbH:=hid hb
   clear hb
   go_wp2
   go_ret
   exact ⟨rfl,hbH.out⟩
set_option maxHeartbeats 1000000 in
theorem zn5 (z:Int) (w:World):Calls Tryz.prog 19 #[.int .i64 z] w fun e w'=>e = .returned (.int .i64 z)∧w=w':=by
 go_enter Tryz.func19,Tryz.ntmps19
 go_wp2
 go_ret
 exact ⟨rfl,rfl⟩
set_option maxHeartbeats 2000000 in
theorem zx4 (s:ByteArray) (w:World) (hs:1500<s.size) :
  Calls Tryz.prog 14 #[.string s] w fun e w'=>e = .returned (.tuple #[.slice none 0 0,.int .i64 1])∧w=w':=by
 have hs2:(1500:Int)<(s.size:Int):=by omega
 go_enter Tryz.func14,Tryz.ntmps14
 go_wp2
 go_ret2
 exact ⟨rfl,rfl⟩
theorem zqt (w:World) (l:List Nd) (n:Nat) (hn:n=l.length) (hl:l.length≤1000):zba w.heap.size (some ⟨w.heap.size,0,none⟩) n l (w.alloc (.cells (zao l).toArray 36)):=by
 have hlen:(zao l).length=l.length*5:=by
  clear hn hl
  induction l with
  | nil=>rfl
  | cons x r ih=>
   have e:zao (x::r)=five x++zao r:=by simp[zao]
   rw[e,List.length_append,ih,List.length_cons];simp[five];omega
 subst hn
 refine ⟨hlen,.inr ⟨w.heap.size,l.length,_,rfl,Nat.le_refl _,za1 _ _,Nat.le_refl _,by unfold maxLen;omega,by simpa using hlen,?_⟩⟩
 rw[← hlen];simp
end Go.Proofs.YtlojgpkajkedeaaGreatDoor
