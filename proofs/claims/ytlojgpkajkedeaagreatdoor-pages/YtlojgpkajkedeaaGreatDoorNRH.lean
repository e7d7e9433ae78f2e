import Derived.Test.YtlojgpkajkedeaaGreatDoorNC2
import Derived.Test.YtlojgpkajkedeaaGreatDoorNRF
set_option maxHeartbeats 16000000
set_option maxRecDepth 100000
namespace Go.Proofs.YtlojgpkajkedeaaGreatDoor
open Go.RowKit Go.Proofs.Tryz
abbrev Ln:=ByteArray × Int
def zrg (p:Ln):List Value:=[.string p.1,.int .i64 p.2]
def zc1 (l:List Ln):List Value:=(l.map zrg).flatten
theorem zey (l:List Ln)(x:Ln):zc1 (l++[x])=zc1 l++zrg x:=by simp[zc1]
theorem zqe (l:List Ln)(i j:Nat)(x:Ln)(h:l[i]?=some x)(hj:j<2):(zc1 l)[2*i+j]?=(zrg x)[j]?:=by
 induction l generalizing i with
 | nil=>simp at h
 | cons q r ih=>
  have hl:(zrg q).length=2:=rfl;cases i with
  | zero=>
   simp at h;subst h;show (zrg q++zc1 r)[2*0+j]?=_;rw[Qbd (by rw[hl];omega)];simp
  | succ i=>
   have:=ih i (by simpa using h);show (zrg q++zc1 r)[2*(i+1)+j]?=_;rw[Qu (by rw[hl];omega),hl,<-this];congr 1;omega
def zcl (l:List Ln):List ByteArray:=l.map Prod.fst
def datL (l:List Ln):List (List UInt8):=dat (zcl l)
theorem zcd (l:List Ln)(i:Nat)(p:Ln)(h:l[i]?=some p):(datL l)[i]?=some p.1.data.toList:=by
 unfold datL;rw[zd0];simp[zcl,h]
theorem zas (l:List Ln):(datL l).length=l.length:=by simp[datL,dat,zcl]
theorem zln (l:List Ln)(k:Nat):datL (l.drop k)=(datL l).drop k:=by simp[datL,dat,zcl]
theorem zlr (l:List Ln)(k:Nat):datL (l.take k)=(datL l).take k:=by simp[datL,dat,zcl,List.map_take]
def Num (z:Int)(l:List Ln):Prop:=∀(i:Nat) (p:Ln),l[i]?=some p->p.2=z+i
theorem Num.drop {z:Int}{l:List Ln}(h:Num z l)(k:Nat):Num (z+k) (l.drop k):=by
 intro i p hi;rw[Qn] at hi;have:=h (k+i) p hi;rw[this];omega
def RowL (w:World)(b o:Nat)(l:List Ln):Prop:=(∀(i:Nat) (p:Ln),l[i]?=some p->w.cell? ⟨b,o+i*2,none⟩=some (.string p.1)/\w.cell? ⟨b,o+i*2+1,none⟩=some (.int .i64 p.2))/\tot (zcl l)<=1000000
theorem RowL.len {w:World}{b o:Nat}{l:List Ln}(h:RowL w b o l):l.length<=1000000:=by
 have h1:=zjl (zcl l);have h2:=h.2;simp only[zcl,List.length_map] at h1 h2;omega
theorem RowL.size {w:World}{b o:Nat}{l:List Ln}(h:RowL w b o l)(i:Nat)(p:Ln)(hi:l[i]?=some p):p.1.size<=1000000:=by
 have h1:=zdg (zcl l) i p.1 (by simp[zcl,hi]);have h2:=h.2;omega
theorem RowL.below {w w':World}{n b o:Nat}{l:List Ln}(h:RowL w b o l)(hb:Below n w w')(hn:b<n):RowL w' b o l:=
 ⟨λi p hi=>⟨(hb.cell (p:=⟨b,o+i*2,none⟩) hn).trans (h.1 i p hi).1,(hb.cell (p:=⟨b,o+i*2+1,none⟩) hn).trans (h.1 i p hi).2⟩,h.2⟩
theorem RowL.drop {w:World}{b o:Nat}{l:List Ln}(h:RowL w b o l)(k:Nat):RowL w b (o+k*2) (l.drop k):=by
 refine⟨λi p hi=>?_,?_⟩
 ·rw[Qn] at hi;have:=h.1 (k+i) p hi;rw[show o+(k+i)*2=o+k*2+i*2 by omega] at this;exact this
 ·have:=zuq (zcl l) k;have h2:=h.2;simp only[zcl,List.map_drop] at this h2 ⊢;omega
theorem RowL.take {w:World}{b o:Nat}{l:List Ln}(h:RowL w b o l)(k:Nat):RowL w b o (l.take k):=by
 refine⟨λi p hi=>?_,?_⟩
 ·by_cases hk:i<k
  ·rw[Qbe hk] at hi;exact h.1 i p hi
  ·have:=(Qb.1 hi).1;rw[Ql] at this;omega
 ·have:=zpe (zcl l) k;have h2:=h.2;simp only[zcl,List.map_take] at this h2 ⊢;omega
theorem zrx {w:World}{B:Nat}{a:Option Addr}{cp:Nat}{l:List Ln}(h:w.ownsRow B 116 2 (.slice a l.length cp) l.length (zc1 l))(ht:tot (zcl l)<=1000000)(hpos:0<l.length):∃g,a=some ⟨g,0,none⟩/\B<=g/\g<w.heap.size/\l.length<=cp/\RowL w g 0 l:=by
 rcases h.2 with ⟨_,h2⟩|⟨g,cap,cur,h1,h2,h3,h4,_⟩
 ·omega
 ·injection h1 with e1 e2 e3
  subst e1 e3;refine⟨g,rfl,h2,(Qq.1 h3).1,h4,λi p hi=>?_,ht⟩;have hc:∀j u,(zrg p)[j]?=some u->w.cell? ⟨g,0+i*2+j,none⟩=some u:=by
   intro j u hu;have hj:j<2:=by have:=(Qb.1 hu).1;simpa [zrg] using this
   have hx:=zqe l i j p hi hj;rw[hu] at hx;have:=h.cells (g:=g) rfl (2*i+j) u hx;have ha:(⟨g,0,none⟩:Addr).add (2*i+j)=⟨g,0+i*2+j,none⟩:=by
    simp only[Addr.add];split
    ·rename_i h;simp<;>omega
    ·simp<;>omega
   rwa [ha] at this
  exact⟨hc 0 _ rfl,hc 1 _ rfl⟩
theorem Tryz.zo6:(prog.info? 116).map (λi=>(i.zero,i.size,i.bytes))=some (some (.agg #[.string ⟨#[]⟩,.int .i64 0]),2,24):=by kernel_rfl
structure z5a (w:World)(s:ByteArray)(k f:Nat)(os:List Ln)(a:Option Addr)(cp:Nat)(wr:World):Prop where
 le:f<=k
 len:k<=s.size
 count:os.length<=f
 none:10 ∉ (s.data.toList.drop f).take (k-f)
 spec:S.lines s.data.toList=datL os++S.lines (s.data.toList.drop f)
 num:Num 0 os
 own:wr.ownsRow w.heap.size 116 2 (.slice a os.length cp) os.length (zc1 os)
 below:Below w.heap.size w wr
theorem Num.snoc {l:List Ln}(h:Num 0 l)(s:ByteArray):Num 0 (l++[(s,(l.length:Int))]):=by
 intro i p hi;by_cases hl:i<l.length
 ·rw[Qbd hl] at hi;exact h i p hi
 ·rw[Qu (by omega)] at hi;have hi0:i-l.length=0:=by have:=(Qb.1 hi).1;simp at this;omega
  rw[hi0] at hi;simp at hi;subst hi;show (l.length:Int)=_;omega
theorem zny (s:ByteArray)(w:World)(hs:s.size<=1048576):Calls prog 48 #[.string s] w λe w'=>∃os a cp,e=.returned (.slice a os.length cp)/\Hid (datL os=S.lines s.data.toList/\Num 0 os)/\w'.ownsRow w.heap.size 116 2 (.slice a os.length cp) os.length (zc1 os)/\Below w.heap.size w w':=by
 obtain⟨i0,hi,hz0,hz1,hz2⟩:=info_parts Tryz.zo6;go_enter func48,ntmps48;go_wp2;go_loopw [3,4,5] (λv f' i wr=>∃(k f:Nat) (os:List Ln) (a:Option Addr) (cp:Nat),v=.slice a os.length cp/\f'=.int .i64 f/\i=.int .i64 k/\z5a w s k f os a cp wr) (λ_ _ i _=>s.size-(intOf i).toNat)
 case atStart=>exact⟨0,0,[],none,0,rfl,rfl,rfl,⟨Qc _,Qt _,Qc _,by simp,by simp[datL,dat,zcl],λi p h=>by simp at h,World.ownsRow_nil _ _ _ _,Below.refl _ _⟩⟩
 case round=>
  obtain⟨k,f,os,a,cp,rfl,rfl,rfl,hrel'⟩:=hrel;have hr:=hid hrel';have hle:=hrel'.le;have hlen:=hrel'.len;have hcnt:=hrel'.count;have fq:w.heap.size<=wr.heap.size:=hrel'.below.size;clear hrel';by_cases hlt:k<s.size
  ·have hg:=S.zad s k hlt;by_cases hx:s[k]=10
   ·have hxn:s[k].toNat=10:=(by rw[hx];rfl);rw[hx] at hg;have hst:=hid (S.zzm _ f k hle hg hr.out.none);have hown2:=hid (λob=>hr.out.own.alloc ob);have hnew:Hid (∀j u,([Value.string (s.extract f k),.int .i64 (os.length:Int)]:List Value)[j]?=some u->(wr.alloc (.cells #[.string (s.extract f k),.int .i64 (os.length:Int)] 116)).cell? ((⟨wr.heap.size,0,none⟩:Addr).add j)=some u):=hid (λj u hj=>World.news_of_block (za1 _ _) j u (by exact hj));have hone:Hid (∀u∈([Value.string (s.extract f k),.int .i64 (os.length:Int)]:List Value),u.oneCell'=true):=hid (by
     intro u hu;simp at hu;rcases hu with rfl|rfl<;>rfl)
    clear hg hx;go_wp2_with (at_builtin;refine wpList_append_lies _ (by rfl) _ _ 83 (by rfl) w.heap.size 116 i0 (.agg #[.string ⟨#[]⟩,.int .i64 0]) 2 24 underlying83 hi hz0 hz1 hz2 (by rfl) (by omega) (.slice a os.length cp) os.length (zc1 os) (by rfl) (hown2.out _) ⟨wr.heap.size,0,none⟩ 1 1 [.string (s.extract f k),.int .i64 (os.length:Int)] (by rfl) (by rfl) hnew.out hone.out (by omega) (by unfold maxLen;omega) (by omega) (by simp;omega) (wr.heap.size+1) (by simp) ?_)
    intro g dh w1 hown1 hgrow hat dx;have bg:=hr.out.own.lt;have hR:Hid (z5a w s (k+1) (k+1) (os++[(s.extract f k,(os.length:Int))]) (some ⟨g,0,none⟩) dh w1):=hid (by
     refine⟨Qc _,by omega,by simp;omega,by simp,?_,hr.out.num.snoc _,?_,?_⟩
     ·rw[hr.out.spec,hst.out,<-S.extract_data];simp[datL,dat,zcl]
     ·rw[Qa,zey];exact hown1
     ·exact Below.grown (hr.out.below.alloc fq _) hgrow (by simp;omega) (λq hq=>(bg q hq).1))
    clear hown1 hgrow hat dx bg;go_wp2;go_roundw
    case rel=>exact⟨k+1,k+1,os++[(s.extract f k,(os.length:Int))],some ⟨g,0,none⟩,dh,by simp,by go_num,by go_num,hR.out⟩
    case measure=>simp[intOf];omega
   ·have hxn:¬s[k].toNat=10:=λe=>hx (Qk.1 (by rw[e];rfl));have hxb:(((s[k].toNat:Nat):Int) == 10)=false:=(by rw[Qe];omega);have hst:=hid (S.z4n _ f k hle _ hg hx hr.out.none);clear hg hx hxn;go_wp2;go_roundw
    case rel=>exact⟨k+1,f,os,a,cp,rfl,rfl,by go_num,⟨by omega,by omega,hr.out.count,hst.out,hr.out.spec,hr.out.num,hr.out.own,hr.out.below⟩⟩
    case measure=>simp[intOf];omega
  ·have hkl:k=s.size:=by omega
   subst hkl;have hn0:=hr.out.none;rw[Qbj (by rw[Qf,S.lda];exact Qc _)] at hn0;by_cases hfl:f<s.size
   ·have hst:=hid (S.ztx _ hn0 (by intro e;have:=congrArg List.length e;rw[Qf,S.lda] at this;simp at this;omega));have hown2:=hid (λob=>hr.out.own.alloc ob);have hnew:Hid (∀j u,([Value.string (s.extract f s.size),.int .i64 (os.length:Int)]:List Value)[j]?=some u->(wr.alloc (.cells #[.string (s.extract f s.size),.int .i64 (os.length:Int)] 116)).cell? ((⟨wr.heap.size,0,none⟩:Addr).add j)=some u):=hid (λj u hj=>World.news_of_block (za1 _ _) j u (by exact hj));have hone:Hid (∀u∈([Value.string (s.extract f s.size),.int .i64 (os.length:Int)]:List Value),u.oneCell'=true):=hid (by
     intro u hu;simp at hu;rcases hu with rfl|rfl<;>rfl)
    clear hn0;go_wp2_with (at_builtin;refine wpList_append_lies _ (by rfl) _ _ 83 (by rfl) w.heap.size 116 i0 (.agg #[.string ⟨#[]⟩,.int .i64 0]) 2 24 underlying83 hi hz0 hz1 hz2 (by rfl) (by omega) (.slice a os.length cp) os.length (zc1 os) (by rfl) (hown2.out _) ⟨wr.heap.size,0,none⟩ 1 1 [.string (s.extract f s.size),.int .i64 (os.length:Int)] (by rfl) (by rfl) hnew.out hone.out (by omega) (by unfold maxLen;omega) (by omega) (by simp;omega) (wr.heap.size+1) (by simp) ?_)
    intro g dh w1 hown1 hgrow hat dx;have bg:=hr.out.own.lt;have hb:Hid (Below w.heap.size w w1):=hid (Below.grown (hr.out.below.alloc fq _) hgrow (by simp;omega) (λq hq=>(bg q hq).1));have dw:=hid hown1;clear hown1 hgrow hat dx bg;go_wp2;go_ret;refine⟨os++[(s.extract f s.size,(os.length:Int))],some ⟨g,0,none⟩,dh,by rw[Qa];rfl,hid ⟨?_,hr.out.num.snoc _⟩,?_,hb.out⟩
    ·rw[hr.out.spec,hst.out,<-S.zbf];simp[datL,dat,zcl]
    ·rw[Qa,zey];exact dw.out
   ·have hfe:f=s.size:=(by omega);subst hfe;go_wp2;go_ret;refine⟨os,a,cp,rfl,hid ⟨?_,hr.out.num⟩,hr.out.own,hr.out.below⟩;rw[hr.out.spec,Qw (by rw[S.lda];exact Qc _)];simp[S.lines]
def lastOf (l:List (List UInt8)):Nat:=(l.reverse.dropWhile (λx=>S.blank x)).length
theorem zqs (l:List (List UInt8))(n:Nat)(hn:n<=l.length)(hall:∀j x,n<=j->l[j]?=some x->S.blank x=true)(he:n=0\/∃x,l[n-1]?=some x/\S.blank x=false):lastOf l=n:=by
 unfold lastOf;have hsp:l=l.take n++l.drop n:=(List.take_append_drop n l).symm;have h1:l.reverse=(l.drop n).reverse++(l.take n).reverse:=by rw[<-List.reverse_append,List.take_append_drop]
 rw[h1,List.dropWhile_append_of_pos]
 ·rcases he with h|⟨x,h2,h3⟩
  ·subst h;simp
  ·cases n with
   | zero=>simp
   | succ n=>
    rw[Nat.add_sub_cancel] at h2;have h4:l.take (n+1)=l.take n++[x]:=(by rw[List.take_add_one,h2];rfl);rw[h4,List.reverse_append,List.reverse_singleton,List.singleton_append,List.dropWhile_cons,h3];simp only[Bool.false_eq_true,if_false,Qd,List.length_reverse,Ql];omega
 ·intro x hx;rw[List.mem_reverse] at hx;obtain⟨j,hj⟩:=List.getElem?_of_mem hx;rw[Qn] at hj;exact hall (n+j) x (by omega) hj
theorem zq3 (b o cap:Nat)(ls:List Ln)(w:World)(hrow:RowL w b o ls):Calls prog 131 #[.slice (some ⟨b,o,none⟩) ls.length cap] w λe w'=>e=.returned (.int .i64 (lastOf (datL ls):Nat))/\w'=w:=by
 have hlen:=hrow.len;have bg:=hid hrow;clear hrow;go_enter func131,ntmps131;go_wp2;go_loop [3] (λi=>∃k:Nat,k<=ls.length/\i=.int .i64 k/\∀j x,k<=j->(datL ls)[j]?=some x->S.blank x=true) (λi=>(intOf i).toNat)
 case atStart=>exact⟨ls.length,Qc _,rfl,by
  intro j x hj hx;have:=(Qb.1 hx).1;rw[zas] at this;omega⟩
 case round=>
  obtain⟨k,hk,rfl,hall⟩:=hrel;by_cases h0:0<k
  ·obtain⟨m,rfl⟩:∃m,k=m+1:=⟨k-1,by omega⟩;obtain⟨p,hp⟩:∃p,ls[m]?=some p:=⟨ls[m],Qg (by omega)⟩;have hc:=(bg.out.1 m p hp).1;have hsz:=bg.out.size m p hp;have hd:=zcd ls m p hp;have hwr:IntKind.i64.wrap (((m+1:Nat):Int)-1)=(m:Int):=by rw[IntKind.wrap_i64];omega
   have hI1:(0:Int)<=(m:Int):=by omega
   have hI2:(m:Int)<(ls.length:Int):=by omega
   have hBl:=zc7 p.1 w hsz;obtain⟨bl,hbl⟩:=Qyy (S.blank p.1.data.toList);rw[hbl] at hBl;have dw:Hid (Calls prog 67 #[.string p.1] w λe w'=>e=.returned (.bool bl)/\w=w'):=hid (hBl.mono (λe w' ⟨h1,h2⟩=>⟨h1,h2.symm⟩));obtain⟨s,z⟩:=p;dsimp only at hc dw hbl hd;cases bl
   ·have hfin:Hid (lastOf (datL ls)=m+1):=hid (zqs _ (m+1) (by rw[zas];omega) hall (.inr ⟨_,by rw[Nat.add_sub_cancel];exact hd,hbl⟩));clear hall hd hp hBl hbl;go_wp2_with (fail);refine dw.out.mono ?_;rintro e w'⟨rfl,rfl⟩;go_wp2;go_ret;exact⟨zak (by rw[hfin.out];simp),rfl⟩
   ·have dh:Hid (∀j x,m<=j->(datL ls)[j]?=some x->S.blank x=true):=hid (by
     intro j x hj hx;by_cases e:j=m
     ·subst e;rw[hd] at hx;injection hx with hx;rw[<-hx];exact hbl
     ·exact hall j x (by omega) hx)
    clear hall hd hp hBl hbl;go_wp2_with (fail);refine dw.out.mono ?_;rintro e w'⟨rfl,rfl⟩;go_wp2;exact⟨⟨m,by omega,by go_num,dh.out⟩,by simp[intOf]⟩
  ·have hk0:k=0:=by omega
   subst hk0;have hfin:Hid (lastOf (datL ls)=0):=hid (zqs _ 0 (Qt _) hall (.inl rfl));clear hall;go_wp2;go_ret;exact⟨zak (by rw[hfin.out];rfl),rfl⟩
theorem zn2 (a b:ByteArray)(h:a.size+b.size<=9223372036854775807):Op.stringOp .add a b=pure (.string (a++b)):=by
 unfold Op.stringOp;dsimp only;rw[if_neg];rw[show IntKind.i64.max=9223372036854775807 from by decide];omega
inductive Rn where
 | nd (kind n:Int) (info text:List UInt8) (line:Int) (kids:List Rn)
def Rn.kind:Rn->Int | .nd k _ _ _ _ _=>k
def Rn.n:Rn->Int | .nd _ n _ _ _ _=>n
def Rn.info:Rn->List UInt8 | .nd _ _ i _ _ _=>i
def Rn.text:Rn->List UInt8 | .nd _ _ _ t _ _=>t
def Rn.line:Rn->Int | .nd _ _ _ _ z _=>z
def Rn.kids:Rn->List Rn | .nd _ _ _ _ _ k=>k
def rn7 (t:Rn)(kv:Value):List Value:=[.int .i64 0,.int .i64 t.kind,.int .i64 t.n,.string (S.B t.info),.string (S.B t.text),.int .i64 t.line,kv]
def zon (t:Rn)(kv:Value):Value:=.agg (rn7 t kv).toArray
inductive RepN (w:World)(A:Nat->Prop):Value->List Rn->Prop
 | nil:RepN w A (.slice none 0 0) []
 | some (b o cap:Nat) (ns:List Rn) (kv:Nat->Value) (ha:A b) (hcap:ns.length<=cap)
   (hc:∀(i:Nat) (t:Rn),ns[i]?=some t->∀j u,(rn7 t (kv i))[j]?=some u->w.cell? ⟨b,o+i*7+j,none⟩=some u)
   (hk:∀(i:Nat) (t:Rn),ns[i]?=some t->RepN w A (kv i) t.kids):RepN w A (.slice (some ⟨b,o,none⟩) ns.length cap) ns
theorem RepN.move {w w':World}{A A':Nat->Prop}{v:Value}{ns:List Rn}(h:RepN w A v ns)(hA:∀b,A b->A' b)(hw:∀b,A b->w'.heap[b]?=w.heap[b]?):RepN w' A' v ns:=by
 induction h with
 | nil=>exact .nil
 | some b o cap ns kv ha hcap hc hk ih=>
  exact .some b o cap ns kv (hA b ha) hcap (λi t hi j u hu=>(World.cell?_of_block (a:=⟨b,o+i*7+j,none⟩) (hw b ha)).trans (hc i t hi j u hu)) (λi t hi=>ih i t hi)
theorem RepN.form {w:World}{A:Nat->Prop}{v:Value}{ns:List Rn}(h:RepN w A v ns):∃a n c,v=.slice a n c:=by
 cases h with
 | nil=>exact⟨_,_,_,rfl⟩
 | some=>exact⟨_,_,_,rfl⟩
theorem set7 {W:World}{N T:Nat}{a0 a1 a2 a3 a4 a5 a6:Value}(hx:W.heap[N]?=some (.cells #[a0,a1,a2,a3,a4,a5,a6] T (0,0)))(v0 v1 v2 v3 v4 v5 v6:Value):(((((((W.setCell ⟨N,0,none⟩ v0).setCell ⟨N,1,none⟩ v1).setCell ⟨N,2,none⟩ v2).setCell ⟨N,3,none⟩ v3).setCell ⟨N,4,none⟩ v4).setCell ⟨N,5,none⟩ v5).setCell ⟨N,6,none⟩ v6).heap[N]?=some (.cells #[v0,v1,v2,v3,v4,v5,v6] T (0,0)):=
 za3 (cs:=[v0,v1,v2,v3,v4,v5,a6]) (za3 (cs:=[v0,v1,v2,v3,v4,a5,a6]) (za3 (cs:=[v0,v1,v2,v3,a4,a5,a6]) (za3 (cs:=[v0,v1,v2,a3,a4,a5,a6]) (za3 (cs:=[v0,v1,a2,a3,a4,a5,a6]) (za3 (cs:=[v0,a1,a2,a3,a4,a5,a6]) (za3 (cs:=[a0,a1,a2,a3,a4,a5,a6]) hx 0 v0) 1 v1) 2 v2) 3 v3) 4 v4) 5 v5) 6 v6
theorem zbb {B:Nat}{w W:World}{N:Nat}(hb:Below B w W)(hN:B<=N)(v0 v1 v2 v3 v4 v5 v6:Value):Below B w (((((((W.setCell ⟨N,0,none⟩ v0).setCell ⟨N,1,none⟩ v1).setCell ⟨N,2,none⟩ v2).setCell ⟨N,3,none⟩ v3).setCell ⟨N,4,none⟩ v4).setCell ⟨N,5,none⟩ v5).setCell ⟨N,6,none⟩ v6):=
 ((((((hb.setCell (p:=⟨N,0,none⟩) hN _).setCell (p:=⟨N,1,none⟩) hN _).setCell (p:=⟨N,2,none⟩) hN _).setCell (p:=⟨N,3,none⟩) hN _).setCell (p:=⟨N,4,none⟩) hN _).setCell (p:=⟨N,5,none⟩) hN _).setCell (p:=⟨N,6,none⟩) hN _
theorem zlx (w:World):∃W0,W0=w.alloc (.cells #[.int .i64 0,.int .i64 0,.int .i64 0,.string ⟨#[]⟩,.string ⟨#[]⟩,.int .i64 0,.slice none 0 0] 118)/\Below w.heap.size w W0/\W0.heap.size=w.heap.size+1/\W0.heap[w.heap.size]?=some (.cells #[.int .i64 0,.int .i64 0,.int .i64 0,.string ⟨#[]⟩,.string ⟨#[]⟩,.int .i64 0,.slice none 0 0] 118 (0,0)):=
 ⟨_,rfl,(Below.refl _ _).alloc (Qc _) _,by simp,za1 _ _⟩
def zbm (m:Nat)(x:List UInt8):Bool:=S.blank x||decide (m<=S.indent x)
theorem zf4 (x:List UInt8)(t:List (List UInt8)):lastOf (x::t)=if lastOf t=0 then (if S.blank x=true then 0 else 1) else lastOf t+1:=by
 unfold lastOf;rw[List.reverse_cons,List.dropWhile_append];by_cases h:(List.dropWhile (λx=>S.blank x) t.reverse).isEmpty=true
 ·rw[if_pos h];have h':(List.dropWhile (λx=>S.blank x) t.reverse).length=0:=by simpa using h
  rw[if_pos h',List.dropWhile_cons];split<;>simp_all
 ·rw[if_neg h];have h':¬(List.dropWhile (λx=>S.blank x) t.reverse).length=0:=by simpa using h
  rw[if_neg h'];simp
theorem zim (m z k:Nat)(l:List (List UInt8)):S.zb0 m z k l=if lastOf (l.takeWhile (zbm m))=0 then z else k+lastOf (l.takeWhile (zbm m)):=by
 induction l generalizing z k with
 | nil=>simp[S.zb0,lastOf]
 | cons x r ih=>
  simp only[S.zb0];by_cases hb:S.blank x=true
  ·have hp:zbm m x=true:=by simp[zbm,hb]
   rw[if_pos hb,ih,List.takeWhile_cons,if_pos hp,zf4,if_pos hb];by_cases h0:lastOf (r.takeWhile (zbm m))=0
   ·simp[h0]
   ·simp[h0];omega
  ·rw[if_neg hb];by_cases hi:(S.indent x:Int)<(m:Int)
   ·have hp:¬zbm m x=true:=by
     unfold zbm;rw[Bool.or_eq_true,decide_eq_true_iff];rintro(h|h)
     ·exact hb h
     ·omega
    rw[if_pos hi,List.takeWhile_cons,if_neg hp];simp[lastOf]
   ·have hp:zbm m x=true:=(by unfold zbm;rw[Bool.or_eq_true,decide_eq_true_iff];right;omega);rw[if_neg hi,ih,List.takeWhile_cons,if_pos hp,zf4,if_neg hb];by_cases h0:lastOf (r.takeWhile (zbm m))=0
    ·simp[h0]
    ·simp[h0];omega
theorem zy3 (m:Nat)(x:List UInt8)(r:List (List UInt8))(hb:S.blank x=false)(hi:m<=S.indent x):lastOf ((x::r).takeWhile (zbm m))=S.zax m (x::r):=by
 unfold S.zax;have hp:zbm m x=true:=by unfold zbm;rw[Bool.or_eq_true,decide_eq_true_iff];exact .inr hi
 rw[List.tail_cons,zim,List.takeWhile_cons,if_pos hp,zf4,hb];by_cases h0:lastOf (r.takeWhile (zbm m))=0
 ·simp[h0]
 ·simp[h0];omega
theorem zgo {α:Type}(p : α->Bool)(l:List α)(k:Nat)(hall:∀j x,j<k->l[j]?=some x->p x=true)(hk:k<=l.length)(he:∀x,l[k]?=some x->p x=false):l.takeWhile p=l.take k:=by
 induction l generalizing k with
 | nil=>simp
 | cons x r ih=>
  cases k with
  | zero=>have:=he x (by simp);simp[this]
  | succ k=>
   have h0:=hall 0 x (by omega) (by simp);rw[List.takeWhile_cons,if_pos h0,Qz,ih k (λj y hj hy=>hall (j+1) y (by omega) (by simpa using hy)) (by simpa using hk) (λy hy=>he y (by simpa using hy))]
theorem zvc (b o cap:Nat)(ls:List Ln)(w:World)(hcap:ls.length<=cap)(hrow:RowL w b o ls)(hbw:b<w.heap.size)(h0:∃p,ls[0]?=some p/\S.blank p.1.data.toList=false/\4<=S.indent p.1.data.toList):Calls prog 94 #[.slice (some ⟨b,o,none⟩) ls.length cap] w λe w'=>e=.returned (.tuple #[zon (.nd 3 0 [] (S.zbn ((datL ls).take (S.zax 4 (datL ls)))) 0 []) (.slice none 0 0),.int .i64 (S.zax 4 (datL ls):Nat)])/\Below w.heap.size w w':=by
 obtain⟨W0,hW0,hb0,hz0,hx0⟩:=zlx w;have hlen:=hrow.len;have dw:=hrow.below hb0 hbw;have bg:=hid dw;have dx:lastOf ((datL ls).takeWhile (zbm 4))=S.zax 4 (datL ls):=by
  obtain⟨p,hp,hpb,hpi⟩:=h0;cases hd:datL ls with
  | nil=>have:=zcd ls 0 p hp;rw[hd] at this;simp at this
  | cons x r=>
   have hx:x=p.1.data.toList:=by have:=zcd ls 0 p hp;rw[hd] at this;simpa using this
   subst hx;exact zy3 4 _ r hpb hpi
 have gq:=hid dx;have dh:=hid hx0;have jm:=hid hb0;have jq:=hid hW0;have htot:=hrow.2;clear hW0 hb0 hx0 hrow dw dx h0;go_enter func94,ntmps94;go_upto_region 1 with fail
 rw[<-jq.out];go_wp2;go_loop [4] (λi=>∃k:Nat,k<=ls.length/\i=.int .i64 k/\∀j x,j<k->(datL ls)[j]?=some x->zbm 4 x=true) (λi=>ls.length-(intOf i).toNat)
 case atStart=>exact⟨0,Qt _,rfl,by intro j x hj;omega⟩
 case round=>
  obtain⟨k,hk,rfl,hall⟩:=hrel;by_cases hgo:∃x,(datL ls)[k]?=some x/\zbm 4 x=true
  ·obtain⟨x,hxk,hxd⟩:=hgo;have hlt:k<ls.length:=by have:=(Qb.1 hxk).1;rw[zas] at this;exact this
   obtain⟨p,hp⟩:∃p,ls[k]?=some p:=⟨ls[k],Qg hlt⟩;have hxe:x=p.1.data.toList:=by have:=zcd ls k p hp;rw[hxk] at this;exact Qy this
   subst hxe;have hc:=(bg.out.1 k p hp).1;have hsz:=bg.out.size k p hp;have fq:Hid (∀j x,j<k+1->(datL ls)[j]?=some x->zbm 4 x=true):=hid (by
    intro j x hj hx;by_cases e:j=k
    ·subst e;rw[hxk] at hx;rw[<-Qy hx];exact hxd
    ·exact hall j x (by omega) hx)
   have hBl:=zc7 p.1 W0 hsz;have hIn:=zcc p.1 W0 hsz;have hd2:S.blank p.1.data.toList=true\/4<=S.indent p.1.data.toList:=by unfold zbm at hxd;rw[Bool.or_eq_true,decide_eq_true_iff] at hxd;exact hxd
   obtain⟨s,z⟩:=p;dsimp only at hc hBl hIn hd2 hsz;obtain⟨bl,hbl⟩:=Qyy (S.blank s.data.toList);obtain⟨n,hn⟩:=Qyy (S.indent s.data.toList);rw[hbl] at hBl hd2;rw[hn] at hIn hd2;have gy:Hid (Calls prog 67 #[.string s] W0 λe w'=>e=.returned (.bool bl)/\W0=w'):=hid (hBl.mono (λe w' ⟨h1,h2⟩=>⟨h1,h2.symm⟩));have jy:Hid (Calls prog 88 #[.string s] W0 λe w'=>e=.returned (.int .i64 (n:Nat))/\W0=w'):=hid (hIn.mono (λe w' ⟨h1,h2⟩=>⟨h1,h2.symm⟩));have hI1:(0:Int)<=(k:Int):=by omega
   have hI2:(k:Int)<(ls.length:Int):=by omega
   clear hall hxk hxd hp hBl hIn hbl hn;cases bl
   ·have h4:(4:Int)<=(n:Int):=by
     rcases hd2 with h|h
     ·cases h
     ·omega
    clear hd2;go_wp2_with (fail);refine gy.out.mono ?_;rintro e w'⟨rfl,rfl⟩;go_wp2_with (fail);refine jy.out.mono ?_;rintro e w'⟨rfl,rfl⟩;go_wp2;exact⟨⟨k+1,by omega,by go_num,fq.out⟩,by simp[intOf];omega⟩
   ·clear hd2;go_wp2_with (fail);refine gy.out.mono ?_;rintro e w'⟨rfl,rfl⟩;go_wp2;exact⟨⟨k+1,by omega,by go_num,fq.out⟩,by simp[intOf];omega⟩
  ·have kr:(datL ls).takeWhile (zbm 4)=(datL ls).take k:=zgo _ _ k hall (by rw[zas];exact hk) (λx hx=>by
    by_cases h:zbm 4 x=true
    ·exact absurd ⟨x,hx,h⟩ hgo
    ·simpa using h)
   have jd:=zq3 b o cap (ls.take k) W0 (bg.out.take k);have jw:lastOf (datL (ls.take k))=S.zax 4 (datL ls):=by rw[zlr,<-kr];exact gq.out
   rw[jw,Ql,Nat.min_eq_left hk] at jd;obtain⟨N,hN⟩:=Qyy (S.zax 4 (datL ls));have ng:N<=k:=by
    rw[<-hN,<-jw];unfold lastOf;have:=(List.dropWhile_sublist (λx=>S.blank x) (l:=(datL (ls.take k)).reverse)).length_le;rw[List.length_reverse,zas,Ql] at this;omega
   rw[hN] at jd;have mh:Hid (Calls prog 131 #[.slice (some ⟨b,o,none⟩) k cap] W0 λe w'=>e=.returned (.int .i64 (N:Nat))/\W0=w'):=hid (jd.mono (λe w' ⟨h1,h2⟩=>⟨h1,h2.symm⟩));have lq:=hid hN;have hI0:(0:Int)<=(k:Int):=by omega
   have ny:(k:Int)<=(cap:Int):=by omega
   have jk:=hid hgo;clear hall kr jd jw hN hgo;go_upto_region 2 with fail
   go_cut [27] (λs27 wx=>s27=.bool false/\W0=wx)
   case first=>
    by_cases hlt:k<ls.length
    ·obtain⟨p,hp⟩:∃p,ls[k]?=some p:=⟨ls[k],Qg hlt⟩;have hc:=(bg.out.1 k p hp).1;have hsz:=bg.out.size k p hp;have hnd:¬zbm 4 p.1.data.toList=true:=λh=>jk.out ⟨_,zcd ls k p hp,h⟩;have hBl:=zc7 p.1 W0 hsz;have hIn:=zcc p.1 W0 hsz;obtain⟨s,z⟩:=p;dsimp only at hc hBl hIn hnd hsz;have hb1:S.blank s.data.toList=false:=by
      cases h:S.blank s.data.toList with
      | false=>rfl
      | true=>exact absurd (by unfold zbm;rw[h];rfl) hnd
     have hi1:¬4<=S.indent s.data.toList:=λh=>hnd (by unfold zbm;rw[decide_eq_true h,Bool.or_true]);obtain⟨n,hn⟩:=Qyy (S.indent s.data.toList);rw[hb1] at hBl;rw[hn] at hIn hi1;have gy:Hid (Calls prog 67 #[.string s] W0 λe w'=>e=.returned (.bool false)/\W0=w'):=hid (hBl.mono (λe w' ⟨h1,h2⟩=>⟨h1,h2.symm⟩));have jy:Hid (Calls prog 88 #[.string s] W0 λe w'=>e=.returned (.int .i64 (n:Nat))/\W0=w'):=hid (hIn.mono (λe w' ⟨h1,h2⟩=>⟨h1,h2.symm⟩));have h4:¬(4:Int)<=(n:Int):=(by omega);have hI2:(k:Int)<(ls.length:Int):=(by omega);clear hp hnd hBl hIn hb1 hi1 hn;go_wp2_with (fail);refine gy.out.mono ?_;rintro e w'⟨rfl,rfl⟩;go_wp2_with (fail);refine jy.out.mono ?_;rintro e w'⟨rfl,rfl⟩;go_wp2;go_meet;exact⟨by first|rfl|(congr 1;rw[decide_eq_false_iff_not];omega),rfl⟩
    ·have hI2:¬(k:Int)<(ls.length:Int):=(by omega);go_wp2;go_meet;exact⟨rfl,rfl⟩
   case rest=>
   obtain⟨rfl,rfl⟩:=hcut;go_wp2_with (fail);refine mh.out.mono ?_;rintro e w'⟨rfl,rfl⟩;go_wp2;go_loop [5,6] (λtv i=>∃j:Nat,j<=N/\i=.int .i64 j/\tv=.string (S.B (S.zbn ((datL ls).take j)))) (λ_ i=>N-(intOf i).toNat)
   case atStart=>exact⟨0,Qt _,rfl,rfl⟩
   case round=>
    obtain⟨j,hj,rfl,rfl⟩:=hrel;by_cases hlt:j<N
    ·obtain⟨p,hp⟩:∃p,ls[j]?=some p:=⟨ls[j]'(by omega),Qg (by omega)⟩;have hc:=(bg.out.1 j p hp).1;have hsz:=bg.out.size j p hp;have hsn:=zja (zcl ls) j p.1 (by simp[zcl,hp]);have hle:=zm6 (zcl ls) (j+1);obtain⟨s,z⟩:=p;dsimp only at hc hsz hsn;rw[show dat (zcl ls)=datL ls from rfl] at hsn hle;have kg:=zid s 4 W0 (by omega);obtain⟨t0,ht0⟩:=Qyy (S.zbn ((datL ls).take j));obtain⟨t1,ht1⟩:=Qyy (S.zbn ((datL ls).take (j+1)));rw[ht0,ht1] at hsn;rw[ht1] at hle;rw[ht0];obtain⟨be,hbe⟩:=Qyy (S.B (s.data.toList.drop 4));rw[hbe] at kg;have gy:Hid (Calls prog 132 #[.string s,.int .i64 4] W0 λe w'=>e=.returned (.string be)/\W0=w'):=hid (kg.mono (λe w' ⟨h1,h2⟩=>⟨h1,h2.symm⟩));have hlen1:=congrArg List.length hsn;simp only[Qa,List.length_singleton] at hlen1;have jl:be.size=(s.data.toList.drop 4).length:=(by rw[<-hbe,S.zav]);have hc1:Op.stringOp .add (S.B t0) be=pure (.string (S.B t0++be)):=zn2 _ _ (by rw[S.zav];omega);have hc2:Op.stringOp .add (S.B t0++be) ⟨#[10]⟩=pure (.string (S.B t1)):=by
      rw[zn2 _ _ (by rw[ByteArray.size_append,S.zav];show t0.length+be.size+1<=_;omega)];congr 2
      rw[hsn,<-hbe];unfold S.B;apply ByteArray.ext
      simp[ByteArray.data_append]
     have hI1:(0:Int)<=(j:Int):=(by omega);have hI2:(j:Int)<(ls.length:Int):=(by omega);have mq:(j:Int)<(N:Int):=(by omega);have jg:=hid ht1;clear hp hsn hle kg hbe ht0 ht1 hlen1 jl;go_wp2_with (fail);refine gy.out.mono ?_;rintro e w'⟨rfl,rfl⟩;go_wp2;exact⟨⟨j+1,by omega,by go_num,by rw[jg.out]⟩,by simp[intOf];omega⟩
    ·have lg:j=N:=(by omega);subst lg;have mq:¬(j:Int)<(j:Int):=(by omega);have d0:=za0 dh.out 0 _ rfl;have d1:=za0 dh.out 1 _ rfl;have d2:=za0 dh.out 2 _ rfl;have d3:=za0 dh.out 3 _ rfl;have d4:=za0 dh.out 4 _ rfl;have d5:=za0 dh.out 5 _ rfl;have d6:=za0 dh.out 6 _ rfl;have g0:=za7 dh.out;obtain⟨t0,ht0⟩:=Qyy (S.B (S.zbn ((datL ls).take j)));rw[ht0];have hz:=hid (set7 dh.out (.int .i64 0) (.int .i64 3) (.int .i64 0) (.string ⟨#[]⟩) (.string t0) (.int .i64 0) (.slice none 0 0));have hbz:=hid (zbb (N:=w.heap.size) jm.out (Qc _) (.int .i64 0) (.int .i64 3) (.int .i64 0) (.string ⟨#[]⟩) (.string t0) (.int .i64 0) (.slice none 0 0));have jh:=hid ht0;clear ht0;go_wp2;refine bodyPost_ret (v:=.tuple #[.agg #[.int .i64 0,.int .i64 3,.int .i64 0,.string ⟨#[]⟩,.string t0,.int .i64 0,.slice none 0 0],.int .i64 (j:Nat)]) (by have z0:=za0 hz.out 0 _ rfl;have z1:=za0 hz.out 1 _ rfl;have z2:=za0 hz.out 2 _ rfl;have z3:=za0 hz.out 3 _ rfl;have z4:=za0 hz.out 4 _ rfl;have z5:=za0 hz.out 5 _ rfl;have z6:=za0 hz.out 6 _ rfl;simp[results,results94,go_sem,z0,z1,z2,z3,z4,z5,z6]) rfl ?_;exact⟨by rw[lq.out,<-jh.out];rfl,hbz.out⟩
end Go.Proofs.YtlojgpkajkedeaaGreatDoor
