import Derived.Test.YtlojgpkajkedeaaGreatDoorNW7
import Derived.Test.YtlojgpkajkedeaaGreatDoorNRB
set_option maxHeartbeats 16000000
set_option maxRecDepth 100000
namespace Go.Proofs.YtlojgpkajkedeaaGreatDoor
open Go.RowKit Go.Proofs.Tryz
def z1s (l:List UInt8)(k n:Int)(b:Bool)(mg:Int):Prop:=(S.item l).ok=true->k=((S.item l).kind.toNat:Int)/\n=(S.item l).number/\b=(S.item l).empty/\mg=((S.item l).zaa:Int)
def zya (l:List UInt8)(w:World)(e:Ending)(w':World):Prop:=∃(k n:Int) (b:Bool) (mg:Int),e=.returned (.tuple #[.agg #[.int .u8 k,.int .i64 n,.bool b,.int .i64 mg],.bool (S.item l).ok])/\Hid (z1s l k n b mg)/\Below w.heap.size w w'
def MkIn (w:World)(N:Nat)(k num:Int)(b:Bool)(mg:Int)(wx:World):Prop:=w.heap.size<N/\wx.heap[w.heap.size]?=some (.cells #[.int .u8 0,.int .i64 0,.bool false,.int .i64 0] 150 (0,0))/\wx.heap[N]?=some (.cells #[.int .u8 k,.int .i64 num,.bool b,.int .i64 mg] 150 (0,0))/\Below w.heap.size w wx
theorem MkIn.drew {w:World}{N:Nat}{k num:Int}{b:Bool}{mg:Int}{wx:World}(h:MkIn w N k num b mg wx):MkIn w N k num b mg wx.drew:=⟨h.1,h.2.1,h.2.2.1,h.2.2.2.drew⟩
theorem MkIn.kind {w:World}{N:Nat}{k num:Int}{b:Bool}{mg:Int}{wx:World}(h:MkIn w N k num b mg wx)(k':Int):MkIn w N k' num b mg (wx.setCell ⟨N,0,none⟩ (.int .u8 k')):=by
 obtain⟨m0,m1,m2,m3⟩:=h;refine⟨m0,?_,?_,m3.setCell (p:=⟨N,0,none⟩) (Nat.le_of_lt m0) _⟩
 ·rw[Below.heap_setCell _ _ _ _ (by show w.heap.size≠N;omega)];exact m1
 ·exact za3 (cs:=[.int .u8 k,.int .i64 num,.bool b,.int .i64 mg]) m2 0 _
theorem MkIn.empty {w:World}{N:Nat}{k num:Int}{b:Bool}{mg:Int}{wx:World}(h:MkIn w N k num b mg wx)(b':Bool):MkIn w N k num b' mg (wx.setCell ⟨N,2,none⟩ (.bool b')):=by
 obtain⟨m0,m1,m2,m3⟩:=h;refine⟨m0,?_,?_,m3.setCell (p:=⟨N,2,none⟩) (Nat.le_of_lt m0) _⟩
 ·rw[Below.heap_setCell _ _ _ _ (by show w.heap.size≠N;omega)];exact m1
 ·exact za3 (cs:=[.int .u8 k,.int .i64 num,.bool b,.int .i64 mg]) m2 2 _
theorem MkIn.zaa {w:World}{N:Nat}{k num:Int}{b:Bool}{mg:Int}{wx:World}(h:MkIn w N k num b mg wx)(mg':Int):MkIn w N k num b mg' (wx.setCell ⟨N,3,none⟩ (.int .i64 mg')):=by
 obtain⟨m0,m1,m2,m3⟩:=h;refine⟨m0,?_,?_,m3.setCell (p:=⟨N,3,none⟩) (Nat.le_of_lt m0) _⟩
 ·rw[Below.heap_setCell _ _ _ _ (by show w.heap.size≠N;omega)];exact m1
 ·exact za3 (cs:=[.int .u8 k,.int .i64 num,.bool b,.int .i64 mg]) m2 3 _
theorem zuu {W:World}{N T:Nat}{a0 a1 a2 a3:Value}(hx:W.heap[N]?=some (.cells #[a0,a1,a2,a3] T (0,0)))(v0 v1 v2 v3:Value):((((W.setCell ⟨N,0,none⟩ v0).setCell ⟨N,1,none⟩ v1).setCell ⟨N,2,none⟩ v2).setCell ⟨N,3,none⟩ v3).heap[N]?=some (.cells #[v0,v1,v2,v3] T (0,0)):=
 za3 (cs:=[v0,v1,v2,a3]) (za3 (cs:=[v0,v1,a2,a3]) (za3 (cs:=[v0,a1,a2,a3]) (za3 (cs:=[a0,a1,a2,a3]) hx 0 v0) 1 v1) 2 v2) 3 v3
theorem zl2 {w W:World}(hb:Below w.heap.size w W)(v0 v1 v2 v3:Value):Below w.heap.size w ((((W.setCell ⟨w.heap.size,0,none⟩ v0).setCell ⟨w.heap.size,1,none⟩ v1).setCell ⟨w.heap.size,2,none⟩ v2).setCell ⟨w.heap.size,3,none⟩ v3):=
 (((hb.setCell (p:=⟨w.heap.size,0,none⟩) (Qc _) _).setCell (p:=⟨w.heap.size,1,none⟩) (Qc _) _).setCell (p:=⟨w.heap.size,2,none⟩) (Qc _) _).setCell (p:=⟨w.heap.size,3,none⟩) (Qc _) _
theorem S.z1x (l:List UInt8):S.dec l<=300*10 ^ l.length:=by
 have h:∀(l:List UInt8) (a:Nat),l.foldl (λa b=>a*10+(b.toNat-48)) a<=(a+300)*10 ^ l.length:=by
  intro l;induction l with
  | nil=>intro a;simp
  | cons b l ih=>
   intro a;have h1:=ih (a*10+(b.toNat-48));have h2:=b.toNat_lt;rw[List.foldl_cons,Qd,Nat.pow_succ];refine Qj h1 ?_;have h3:a*10+(b.toNat-48)+300<=(a+300)*10:=by omega
   refine Qj (Nat.mul_le_mul_right _ h3) (Nat.le_of_eq ?_);rw[Nat.mul_assoc,Nat.mul_comm 10]
 have:=h l 0;unfold S.dec;simpa using this
theorem S.zyn (l:List UInt8)(n:Nat)(h:n<=S.digs l)(x:UInt8)(hx:l[n]?=some x)(hd:S.zg9 x=true):S.digs l≠n:=by
 induction l generalizing n with
 | nil=>simp at hx
 | cons y r ih=>
  simp only[S.digs] at h ⊢;cases n with
  | zero=>simp at hx;subst hx;rw[if_pos hd];omega
  | succ n=>
   split
   ·rename_i hy;rw[if_pos hy] at h;have:=ih n (by omega) (by simpa using hx);omega
   ·omega
theorem zq8 (c:UInt8):S.zg9 c=true↔(48:Int)<=(c.toNat:Int)/\(c.toNat:Int)<=57:=by
 unfold S.zg9;rw[Bool.and_eq_true,decide_eq_true_iff,decide_eq_true_iff];omega
theorem zio (s:ByteArray)(w:World)(hs:s.size<=1000000):Calls prog 93 #[.string s] w (zya s.data.toList w):=by
 obtain⟨W0,hW0⟩:=Qzz (w.alloc (.cells #[.int .u8 0,.int .i64 0,.bool false,.int .i64 0] 150));have hb0:Below w.heap.size w W0:=by rw[hW0];exact(Below.refl _ _).alloc (Qc _) _
 have hz0:W0.heap.size=w.heap.size+1:=by rw[hW0];simp
 have hx0:W0.heap[w.heap.size]?=some (.cells #[.int .u8 0,.int .i64 0,.bool false,.int .i64 0] 150 (0,0)):=by rw[hW0];exact za1 _ _
 obtain⟨WM,mq⟩:=Qzz (W0.alloc (.cells #[.int .u8 0,.int .i64 (-1),.bool false,.int .i64 0] 150));have jk:Hid (MkIn w W0.heap.size 0 (-1) false 0 WM):=hid ⟨by omega,by rw[mq,Below.heap_alloc _ _ _ (by omega)];exact hx0,by rw[mq];exact za1 _ _,by rw[mq];exact hb0.alloc (by omega) _⟩;have mh:=hid mq;clear mq;have ng:=hid hW0;have tq:=hid hb0;have qg:=hid hz0;have dw:=hid hx0;clear hW0 hb0 hz0 hx0;cases hsh:S.shallow s.data.toList with
 | nil=>
  have hE:Hid ((S.item s.data.toList).ok=false):=hid (by rw[S.zlu _ (.inl (by rw[hsh];rfl))]);have hI:=hid (zvn s hs hsh W0);have d0:=za0 dw.out 0 _ rfl;have d1:=za0 dw.out 1 _ rfl;have d2:=za0 dw.out 2 _ rfl;have d3:=za0 dw.out 3 _ rfl;have g0:=za7 dw.out;have hlt:w.heap.size<W0.heap.size:=by have:=qg.out;omega
  clear hsh;go_enter func93,ntmps93;go_wp2_with fail
  rw[<-ng.out];refine hI.out.mono ?_;rintro e w'⟨rfl,rfl⟩;go_wp2;refine bodyPost_ret (v:=.tuple #[.agg #[.int .u8 0,.int .i64 0,.bool false,.int .i64 0],.bool false]) (by simp[results,results93,go_sem,d0,d1,d2,d3]) rfl ?_;refine⟨0,0,false,0,by rw[hE.out],hid (λh=>by rw[hE.out] at h;cases h),?_⟩;repeat (refine Below.setCell ?_ (by simp) _)
  exact tq.out
 | cons d t=>
  obtain⟨r,hrd,hrs,hg,hle,hc,hI,hR⟩:=zsm s hs d t hsh;have hnl:=S.z2o r.data.toList;rw[S.lda] at hnl;have hda:=S.zuj r.data.toList;obtain⟨n,hn⟩:=Qyy (S.digs r.data.toList);have hnot:n<r.size->∀h:n<r.size,¬((48:Int)<=(r[n].toNat:Int)/\(r[n].toNat:Int)<=57):=by
   intro _ h hd;rw[<-zq8] at hd;have h1:=S.zad r n h;have h2:S.digs r.data.toList≠n:=S.zyn r.data.toList n (by rw[hn];exact Qc _) r[n] h1 hd;exact h2 hn
  rw[hn] at hnl hda;have hdig:Hid (∀k,k<n->∀h:k<r.size,(48:Int)<=(r[k].toNat:Int)/\(r[k].toNat:Int)<=57):=hid (λk hk h=>by
   rw[<-zq8];apply hda
   have:=S.zad r k h;exact List.mem_of_getElem? (by rw[Qbe hk];exact this))
  have hok:S.item s.data.toList=if S.za5 r.data.toList=0\/S.zb7 r.data.toList (S.za5 r.data.toList)=false then ⟨0,0,0,false,false⟩ else ⟨r.data.toList.getD (S.za5 r.data.toList-1) 0,S.number (r.data.toList.take (S.za5 r.data.toList-1)),S.indent s.data.toList+S.za5 r.data.toList+(if S.blank (r.data.toList.drop (S.za5 r.data.toList))=true\/5<=S.indent (r.data.toList.drop (S.za5 r.data.toList)) then 1 else S.indent (r.data.toList.drop (S.za5 r.data.toList))),S.blank (r.data.toList.drop (S.za5 r.data.toList)),true⟩:=by
   unfold S.item;rw[hsh,hrd]
  have hlong:Hid (6<n->(S.item s.data.toList).ok=false):=hid (λh=>by rw[hok,if_pos (.inl (S.zgl _ (by rw[hn];exact h)))]);have lq:Hid (n=r.size->(S.item s.data.toList).ok=false):=hid (λh=>by rw[hok,if_pos (.inl (S.zhx _ (by rw[hn,S.lda];exact h)))]);have qm:Hid (∀h:n<r.size,r[n] ∉ S.zc3 n->(S.item s.data.toList).ok=false):=hid (λh hc=>by
   rw[hok,if_pos (.inl (S.zin _ r[n] (by rw[hn];exact S.zad r n h) (by rw[hn];exact hc)))])
  have hsize:Hid (∀h:n<r.size,¬6<n->r[n]∈S.zc3 n->S.za5 r.data.toList=n+1):=hid (λh h6 hc=>by
   rw[S.zi1 _ r[n] (by rw[hn];exact h6) (by rw[hn];exact S.zad r n h) (by rw[hn];exact hc),hn])
  have jy:=hid hok;have jg:=hid hnot;have yx:=hid (hI W0);have yh:=hid (hR W0);have hrb:r.size<=1000000:=by omega
  clear hnot hda hI hR hok hn hsh hrd hrs hg;go_enter func93,ntmps93;go_wp2_with fail
  rw[<-ng.out];refine yx.out.mono ?_;rintro e w'⟨rfl,rfl⟩;go_wp2_with fail
  refine yh.out.mono ?_;rintro e w'⟨rfl,rfl⟩;go_upto_region 6 with fail
  go_loop [6] (λi=>∃k:Nat,k<=n/\i=.int .i64 k) (λi=>n-(intOf i).toNat)
  case atStart=>exact⟨0,Qt _,rfl⟩
  case round=>
   obtain⟨k,hk,rfl⟩:=hrel;by_cases hkn:k<n
   ·have hlt:k<r.size:=(by omega);have hI1:(k:Int)<(r.size:Int):=(by omega);have hdg:=hdig.out k hkn hlt;obtain⟨hd1,hd2⟩:=hdg;go_wp2;exact⟨⟨k+1,by omega,by go_num⟩,by simp[intOf];omega⟩
   ·have hke:k=n:=(by omega);subst hke;clear hkn;by_cases hbad9:6<k\/k=r.size
    ·have hE:Hid ((S.item s.data.toList).ok=false):=hid (by
      rcases hbad9 with h|h
      ·exact hlong.out h
      ·exact lq.out h)
     have jh:=hid hbad9;clear hbad9;go_upto_region 6 with fail
     go_cut [34] (λs34 wx=>s34=.bool false/\W0=wx)
     case first=>
      by_cases hlt:k<r.size
      ·have h1:(k:Int)<(r.size:Int):=(by omega);have hnd:=jg.out hlt hlt;by_cases h48:(48:Int)<=(r[k].toNat:Int)
       ·have h57:¬(r[k].toNat:Int)<=57:=λh=>hnd ⟨h48,h⟩;clear hnd;go_wp2;go_meet;exact⟨rfl,rfl⟩
       ·clear hnd;go_wp2;go_meet;exact⟨rfl,rfl⟩
      ·have h1:¬(k:Int)<(r.size:Int):=(by omega);go_wp2;go_meet;exact⟨rfl,rfl⟩
     case rest=>
     obtain⟨rfl,rfl⟩:=hcut;go_upto_region 9 with fail
     rw[<-mh.out];go_cut [45] (λs45 wx=>s45=.bool true/\WM=wx)
     case first=>
      by_cases h6:6<k
      ·have h2:(6:Int)<(k:Int):=(by omega);go_wp2;go_meet;exact⟨rfl,rfl⟩
      ·have h2:¬(6:Int)<(k:Int):=(by omega);have h3:((k:Int) == (r.size:Int))=true:=by
        rcases jh.out with h|h
        ·omega
        ·rw[beq_iff_eq];omega
       go_wp2;go_meet;exact⟨rfl,rfl⟩
     case rest=>
     obtain⟨rfl,rfl⟩:=hcut;have bg:=jk.out;have z0:=zuu bg.2.1 (.int .u8 0) (.int .i64 (-1)) (.bool false) (.int .i64 0);have hbz:=hid (zl2 bg.2.2.2 (.int .u8 0) (.int .i64 (-1)) (.bool false) (.int .i64 0));have hz:=hid z0;have c0:=za0 bg.2.2.1 0 _ rfl;have c1:=za0 bg.2.2.1 1 _ rfl;have c2:=za0 bg.2.2.1 2 _ rfl;have c3:=za0 bg.2.2.1 3 _ rfl;have d0:=za0 bg.2.1 0 _ rfl;have d1:=za0 bg.2.1 1 _ rfl;have d2:=za0 bg.2.1 2 _ rfl;have d3:=za0 bg.2.1 3 _ rfl;have g0:=za7 bg.2.1;clear bg z0;go_wp2;refine bodyPost_ret (v:=.tuple #[.agg #[.int .u8 0,.int .i64 (-1),.bool false,.int .i64 0],.bool false]) (by have z0:=za0 hz.out 0 _ rfl;have z1:=za0 hz.out 1 _ rfl;have z2:=za0 hz.out 2 _ rfl;have z3:=za0 hz.out 3 _ rfl;simp[results,results93,go_sem,z0,z1,z2,z3]) rfl ?_;exact⟨0,-1,false,0,by rw[hE.out],hid (λh=>by rw[hE.out] at h;cases h),hbz.out⟩
    ·have h6:¬6<k:=λh=>hbad9 (.inl h);have hlt:k<r.size:=by
      rcases Nat.lt_or_ge k r.size with h|h
      ·exact h
      ·exact absurd (.inr (by omega)) hbad9
     have h6':¬(6:Int)<(k:Int):=(by omega);have zy:((k:Int) == (r.size:Int))=false:=(by rw[Qe];omega);have h8':(k:Int)<(r.size:Int):=(by omega);have kr:k<r.size:=hlt;clear hbad9;go_upto_region 6 with fail
     go_cut [34] (λs34 wx=>s34=.bool false/\W0=wx)
     case first=>
      by_cases hlt:k<r.size
      ·have h1:(k:Int)<(r.size:Int):=(by omega);have hnd:=jg.out hlt hlt;by_cases h48:(48:Int)<=(r[k].toNat:Int)
       ·have h57:¬(r[k].toNat:Int)<=57:=λh=>hnd ⟨h48,h⟩;clear hnd;go_wp2;go_meet;exact⟨rfl,rfl⟩
       ·clear hnd;go_wp2;go_meet;exact⟨rfl,rfl⟩
      ·exact absurd kr hlt
     case rest=>
     obtain⟨rfl,rfl⟩:=hcut;go_upto_region 9 with fail
     rw[<-mh.out];by_cases hm:r[k]∈S.zc3 k
     ·have hms:=hid (hsize.out hlt h6 hm);have hdl:=S.z1x (r.data.toList.take k);rw[Ql,S.lda,Nat.min_eq_left (Nat.le_of_lt hlt)] at hdl;have qh:10 ^ k<=10 ^ 6:=Nat.pow_le_pow_right (by decide) (by omega);go_upto_region 12 with fail
      go_cut [75] (λs75 wx=>s75=.bool false/\WM=wx)
      case first=>
       by_cases hk0:k=0
       ·have hme:S.zc3 k=[45,43,42]:=(by unfold S.zc3;rw[if_pos hk0]);rw[hme] at hm;have k1:((k:Int) == 0)=true:=(by rw[beq_iff_eq];omega);have k3:¬0<k:=(by omega);have qx:(r[k].toNat:Int)=45\/(r[k].toNat:Int)=43\/(r[k].toNat:Int)=42:=by
         simp at hm;rcases hm with h|h|h
         ·exact .inl (by rw[h];rfl)
         ·exact .inr (.inl (by rw[h];rfl))
         ·exact .inr (.inr (by rw[h];rfl))
        clear hme hk0 hm;rcases qx with h|h|h
        all_goals
         have hH:=hid h;go_wp2;rw[<-hH.out];go_meet;exact⟨by first|rfl|simp[hH.out],rfl⟩
       ·have hme:S.zc3 k=[46,41]:=(by unfold S.zc3;rw[if_neg hk0]);rw[hme] at hm;have k1:((k:Int) == 0)=false:=(by rw[Qe];omega);have k2:(0:Int)<(k:Int):=(by omega);have k3:0<k:=(by omega);have qx:(r[k].toNat:Int)=46\/(r[k].toNat:Int)=41:=by
         simp at hm;rcases hm with h|h
         ·exact .inl (by rw[h];rfl)
         ·exact .inr (by rw[h];rfl)
        clear hme hk0 hm;rcases qx with h|h
        all_goals
         have hH:=hid h;go_wp2;rw[<-hH.out];go_meet;exact⟨by first|rfl|(simp[hH.out];done)|(simp;done)|(simp;intro _;exact hH.out),rfl⟩
      case rest=>
      obtain⟨rfl,rfl⟩:=hcut;go_upto_if 78 with fail
      go_cut [9] (λ_ wx=>Hid (MkIn w W0.heap.size 0 (S.number (r.data.toList.take k)) false 0 wx))
      case first=>
       by_cases hk0:k=0
       ·have hM0:Hid (MkIn w W0.heap.size 0 (S.number (r.data.toList.take k)) false 0 WM):=hid (by rw[hk0,show S.number (r.data.toList.take 0) = -1 by simp[S.number]];exact jk.out);have k1:¬(0:Int)<(k:Int):=(by omega);clear hk0;go_wp2;go_meet;exact hM0
       ·have k1:(0:Int)<(k:Int):=(by omega);have qj:Hid (S.number (r.data.toList.take k)=(S.dec (r.data.toList.take k):Int)):=hid (by
         unfold S.number;rw[if_neg];intro e;have:=congrArg List.length e;rw[Ql,S.lda,Qi] at this;omega)
        have hM1:Hid (MkIn w W0.heap.size 0 0 false 0 (WM.setCell ⟨W0.heap.size,1,none⟩ (.int .i64 0))):=hid (by
         obtain⟨m0,m1,m2,m3⟩:=jk.out;refine⟨m0,?_,?_,m3.setCell (p:=⟨W0.heap.size,1,none⟩) (Nat.le_of_lt m0) _⟩
         ·rw[Below.heap_setCell _ _ _ _ (by show w.heap.size≠W0.heap.size;omega)];exact m1
         ·exact za3 (cs:=[.int .u8 0,.int .i64 (-1),.bool false,.int .i64 0]) m2 1 _)
        have c1:WM.cell? ⟨W0.heap.size,1,none⟩=some (.int .i64 (-1)):=za0 jk.out.2.2.1 1 _ rfl;have f1:WM.frozen? ⟨W0.heap.size,1,none⟩=false:=za7 jk.out.2.2.1 1;clear hk0 hm;go_wp2;go_loopw [9] (λs9 wr=>∃i:Nat,i<=k/\s9=.int .i64 i/\Hid (MkIn w W0.heap.size 0 (S.dec (r.data.toList.take i):Int) false 0 wr)) (λs9 _=>k-(intOf s9).toNat)
        case atStart=>exact⟨0,Qt _,rfl,hM1⟩
        case round=>
         obtain⟨i,hik,rfl,jl⟩:=hrel;by_cases hlti:i<k
         ·have hilt:i<r.size:=(by omega);have hI1:(i:Int)<(k:Int):=(by omega);have hI2:(i:Int)<(r.size:Int):=(by omega);have zw:(0:Int)<=(i:Int):=(by omega);obtain⟨hd1,hd2⟩:=hdig.out i hlti hilt;have hgi:r.data.toList[i]?=some r[i]:=S.zad r i hilt;have hsn:S.dec (r.data.toList.take (i+1))=S.dec (r.data.toList.take i)*10+(r[i].toNat-48):=by
           unfold S.dec;rw[List.take_add_one,hgi];simp
          have hdi:=S.z1x (r.data.toList.take (i+1));rw[Ql,S.lda,Nat.min_eq_left (by omega)] at hdi;have hpi:10 ^ (i+1)<=10 ^ 6:=Nat.pow_le_pow_right (by decide) (by omega);obtain⟨D,hD⟩:=Qyy (S.dec (r.data.toList.take i));obtain⟨E,hE⟩:=Qyy (S.dec (r.data.toList.take (i+1)));rw[hD,hE] at hsn;rw[hE] at hdi;rw[hD] at jl;have zx:E<=300000000:=(by omega);have c1':wr.cell? ⟨W0.heap.size,1,none⟩=some (.int .i64 (D:Int)):=za0 jl.out.2.2.1 1 _ rfl;have f1':wr.frozen? ⟨W0.heap.size,1,none⟩=false:=za7 jl.out.2.2.1 1;have hw1:IntKind.u8.wrap ((r[i].toNat:Int)-48)=(r[i].toNat:Int)-48:=by
           have:=r[i].toNat_lt;simp[IntKind.wrap,IntKind.bits,IntKind.signed];omega
          have hw2:IntKind.i64.wrap (10*(D:Int))=10*(D:Int):=(by rw[IntKind.wrap_i64];omega);have hw3:IntKind.i64.wrap (10*(D:Int)+((r[i].toNat:Int)-48))=(E:Int):=(by rw[IntKind.wrap_i64];omega);have yj:Hid (MkIn w W0.heap.size 0 (E:Int) false 0 ((wr.setCell ⟨W0.heap.size,1,none⟩ (.int .i64 (E:Int))))):=hid (by
           obtain⟨m0,m1,m2,m3⟩:=jl.out;refine⟨m0,?_,?_,m3.setCell (p:=⟨W0.heap.size,1,none⟩) (Nat.le_of_lt m0) _⟩
           ·rw[Below.heap_setCell _ _ _ _ (by show w.heap.size≠W0.heap.size;omega)];exact m1
           ·exact za3 (cs:=[.int .u8 0,.int .i64 (D:Int),.bool false,.int .i64 0]) m2 1 _)
          have zh:=hid hE;clear hgi hD hE hsn hdi hpi;go_wp2_with (fail);go_region
          go_wp2;go_roundw
          case rel=>exact⟨i+1,by omega,by go_num,by rw[zh.out];exact hid yj.out.drew⟩
          case measure=>simp[intOf];omega
         ·have hie:i=k:=(by omega);subst hie;have yt:Hid (MkIn w W0.heap.size 0 (S.number (r.data.toList.take i)) false 0 wr):=hid (by rw[qj.out];exact jl.out);clear jl;go_wp2;go_meet;exact yt
      case rest=>
      have hM1:=hcut;have qz:=hdl;obtain⟨num,hnm⟩:=Qyy (S.number (r.data.toList.take k));rw[hnm] at hM1;obtain⟨kc,hkc⟩:∃kc:Int,(r[k].toNat:Int)=kc:=⟨_,rfl⟩;obtain⟨W1,hW1⟩:=Qzz (wc.setCell ⟨W0.heap.size,0,none⟩ (.int .u8 kc));have hM2:Hid (MkIn w W0.heap.size kc num false 0 W1):=hid (by rw[hW1];exact hM1.out.kind kc);have b0:wc.cell? ⟨W0.heap.size,0,none⟩=some (.int .u8 0):=za0 hM1.out.2.2.1 0 _ rfl;have a0:wc.frozen? ⟨W0.heap.size,0,none⟩=false:=za7 hM1.out.2.2.1 0;have lg:=hid hkc;have vw:=hid hW1;obtain⟨th,hth⟩:=Qyy (r.extract (k+1) r.size);have jq:th.data.toList=r.data.toList.drop (k+1):=(by rw[<-hth,S.zbf]);have jm:th.size=r.size-(k+1):=(by rw[<-hth];simp);have yc:((k:Int)+1).toNat=k+1:=(by omega);have zq:(0:Int)<=(k:Int)+1:=(by omega);have zn:(k:Int)+1<=(r.size:Int):=(by omega);have xq:IntKind.i64.wrap ((k:Int)+1)=(k:Int)+1:=(by rw[IntKind.wrap_i64];omega);have qp:=hid hnm;have dx:=hid jq;clear hW1 hcut hM1 hnm hm qh hdl qz hkc jq;go_upto_region 22 with fail
      rw[lg.out,<-vw.out];obtain⟨ew,xg⟩:=Qyy (S.zb7 r.data.toList (k+1));have fq:=hid xg;have jd:=hid jm;clear xg jm hth;go_cut [107] (λs107 wx=>s107=.bool (!ew)/\W1=wx)
      case first=>
       by_cases hfull:k+1=r.size
       ·have hl0:th.toList=[]:=by
         rw[ByteArray.toList_eq,dx.out];exact Qw (by rw[S.lda];omega)
        have he:Hid (ew=true):=hid (by rw[<-fq.out];unfold S.zb7;rw[S.lda,decide_eq_true hfull];rfl);clear hfull;go_wp2;go_meet;exact⟨by rw[he.out];rfl,rfl⟩
       ·have hz:0<th.size:=(by have:=jd.out;omega);have hl1:¬th.toList=[]:=by
         rw[ByteArray.toList_eq];intro e;have:=congrArg List.length e;rw[S.lda,Qi] at this;omega
        have hg0:r.data.toList[k+1]?=some th[0]:=by
         have h1:=S.zad th 0 hz;rw[dx.out,Qn,Nat.add_zero] at h1;exact h1
        have hz':(0:Int)<(th.size:Int):=(by omega);by_cases h32:th[0]=32
        ·have he:Hid (ew=true):=hid (by rw[<-fq.out];unfold S.zb7;rw[hg0,h32];simp);have e1:((th[0].toNat:Int) != 32)=false:=(by simp[h32]);clear hfull hg0 h32;go_wp2;go_meet;exact⟨by rw[he.out];rfl,rfl⟩
        ·have he:Hid (ew=false):=hid (by rw[<-fq.out];unfold S.zb7;rw[hg0,S.lda,decide_eq_false hfull];simpa using h32);have e1:((th[0].toNat:Int) != 32)=true:=(by rw[bne_iff_ne];intro h;exact h32 (Qk.1 (by show th[0].toNat=32;omega)));clear hfull hg0 h32;go_wp2;go_meet;exact⟨by rw[he.out];first|rfl|simp[hl1],rfl⟩
      case rest=>
      obtain⟨rfl,rfl⟩:=hcut;have pq:=hM2;cases ew
      ·have hE:Hid ((S.item s.data.toList).ok=false):=hid (by rw[jy.out,hms.out,if_pos (.inr fq.out)]);have bg:=pq.out;have gq:=hid (zuu bg.2.1 (.int .u8 kc) (.int .i64 num) (.bool false) (.int .i64 0));have hbz:=hid (zl2 bg.2.2.2 (.int .u8 kc) (.int .i64 num) (.bool false) (.int .i64 0));have c0:=za0 bg.2.2.1 0 _ rfl;have c1:=za0 bg.2.2.1 1 _ rfl;have c2:=za0 bg.2.2.1 2 _ rfl;have c3:=za0 bg.2.2.1 3 _ rfl;have d0:=za0 bg.2.1 0 _ rfl;have d1:=za0 bg.2.1 1 _ rfl;have d2:=za0 bg.2.1 2 _ rfl;have d3:=za0 bg.2.1 3 _ rfl;have g0:=za7 bg.2.1;clear bg;go_wp2;refine bodyPost_ret (v:=.tuple #[.agg #[.int .u8 kc,.int .i64 num,.bool false,.int .i64 0],.bool false]) (by have z0:=za0 gq.out 0 _ rfl;have z1:=za0 gq.out 1 _ rfl;have z2:=za0 gq.out 2 _ rfl;have z3:=za0 gq.out 3 _ rfl;simp[results,results93,go_sem,z0,z1,z2,z3]) rfl ?_;exact⟨kc,num,false,0,by rw[hE.out],hid (λh=>by rw[hE.out] at h;cases h),hbz.out⟩
      ·have qb:S.item s.data.toList=⟨r.data.toList.getD k 0,num,S.indent s.data.toList+(k+1)+(if S.blank th.data.toList=true\/5<=S.indent th.data.toList then 1 else S.indent th.data.toList),S.blank th.data.toList,true⟩:=by
        rw[jy.out,hms.out,if_neg,Nat.add_sub_cancel,qp.out,dx.out];rintro(h|h)
        ·omega
        ·rw[fq.out] at h;cases h
       have hkd:(r.data.toList.getD k 0).toNat=kc:=by
        rw[List.getD_eq_getElem?_getD,S.zad r k kr];exact lg.out
       have jw:th.size<=1000000:=(by have:=jd.out;omega);have hBl:=zc7 th W1 jw;have hsi:=S.zby s.data.toList;rw[S.lda] at hsi;have hti:=S.zby th.data.toList;rw[S.lda] at hti;obtain⟨bl,hbl⟩:=Qyy (S.blank th.data.toList);obtain⟨sp,hsp⟩:=Qyy (S.indent th.data.toList);obtain⟨si,gy⟩:=Qyy (S.indent s.data.toList);rw[hbl] at hBl;rw[hbl,hsp,gy] at qb;rw[gy] at hsi;rw[hsp] at hti;obtain⟨mk,hmk⟩:∃mk:Nat,(if bl=true\/5<=sp then 1 else sp)=mk:=⟨_,rfl⟩
       rw[hmk] at qb;have yg:mk<=1000000:=(by rw[<-hmk];split<;>omega);have wh:Hid (∀wx,Calls prog 88 #[.string th] wx λe w'=>e=.returned (.int .i64 (sp:Nat))/\wx=w'):=hid (λwx=>by
        have:=zcc th wx jw;rw[hsp] at this;exact this.mono (λe w' ⟨h1,h2⟩=>⟨h1,h2.symm⟩))
       have wm:Hid (∀wx,Calls prog 88 #[.string s] wx λe w'=>e=.returned (.int .i64 (si:Nat))/\wx=w'):=hid (λwx=>by
        have:=zcc s wx hs;rw[gy] at this;exact this.mono (λe w' ⟨h1,h2⟩=>⟨h1,h2.symm⟩))
       have zk:Hid (Calls prog 67 #[.string th] W1 λe w'=>e=.returned (.bool bl)/\W1=w'):=hid (hBl.mono (λe w' ⟨h1,h2⟩=>⟨h1,h2.symm⟩));obtain⟨W2,hW2⟩:=Qzz (W1.setCell ⟨W0.heap.size,2,none⟩ (.bool bl));have pz:Hid (MkIn w W0.heap.size kc num bl 0 W2):=hid (by rw[hW2];exact hM2.out.empty bl);obtain⟨W4,vk⟩:=Qzz (W2.setCell ⟨W0.heap.size,3,none⟩ (.int .i64 ((si:Int)+(k:Int)+1+(mk:Int))));have yw:Hid (MkIn w W0.heap.size kc num bl ((si:Int)+(k:Int)+1+(mk:Int)) W4):=hid (by rw[vk];exact pz.out.zaa _);have p2:W1.cell? ⟨W0.heap.size,2,none⟩=some (.bool false):=za0 hM2.out.2.2.1 2 _ rfl;have q2:W1.frozen? ⟨W0.heap.size,2,none⟩=false:=za7 hM2.out.2.2.1 2;have zl:W2.cell? ⟨W0.heap.size,2,none⟩=some (.bool bl):=za0 pz.out.2.2.1 2 _ rfl;have p3:W2.cell? ⟨W0.heap.size,3,none⟩=some (.int .i64 0):=za0 pz.out.2.2.1 3 _ rfl;have q3:W2.frozen? ⟨W0.heap.size,3,none⟩=false:=za7 pz.out.2.2.1 3;have vv:=hid hW2;have vg:=hid vk;have ny:=hid qb;have qy:=hid hkd;have kg:=hid hmk;have zm:IntKind.i64.wrap ((si:Int)+(k:Int))=(si:Int)+(k:Int):=(by rw[IntKind.wrap_i64];omega);have hwb:IntKind.i64.wrap ((si:Int)+(k:Int)+1)=(si:Int)+(k:Int)+1:=(by rw[IntKind.wrap_i64];omega);have hwc:IntKind.i64.wrap ((si:Int)+(k:Int)+1+(mk:Int))=(si:Int)+(k:Int)+1+(mk:Int):=(by rw[IntKind.wrap_i64];omega);clear hW2 vk qb hkd hBl hbl hsp gy hmk pq;go_wp2_with (fail);refine zk.out.mono ?_;rintro e w'⟨rfl,rfl⟩;go_upto_region 25 with fail
       rw[<-vv.out];go_wp2_with (fail);refine(wh.out _).mono ?_;rintro e w'⟨rfl,rfl⟩;go_upto_region 26 with fail
       obtain⟨cd,hcd⟩:∃cd:Bool,(bl||decide (5<=sp))=cd:=⟨_,rfl⟩;have dh:=hid hcd;clear hcd;go_cut [119] (λs119 wx=>s119=.bool cd/\W2=wx)
       case first=>
        cases bl
        ·by_cases h5:5<=sp
         ·have h5':(5:Int)<=(sp:Int):=(by omega);have he:Hid (cd=true):=hid (by rw[<-dh.out,decide_eq_true h5];rfl);go_wp2;go_meet;exact⟨by rw[he.out],rfl⟩
         ·have h5':¬(5:Int)<=(sp:Int):=(by omega);have he:Hid (cd=false):=hid (by rw[<-dh.out,decide_eq_false h5];rfl);go_wp2;go_meet;exact⟨by rw[he.out],rfl⟩
        ·have he:Hid (cd=true):=hid (by rw[<-dh.out];rfl);go_wp2;go_meet;exact⟨by rw[he.out],rfl⟩
       case rest=>
       obtain⟨rfl,rfl⟩:=hcut;go_upto_if 119 with fail
       go_cut [11] (λs11 wx=>s11=.int .i64 (mk:Nat)/\W2=wx)
       case first=>
        cases cd
        ·have he:Hid (mk=sp):=hid (by
          rw[<-kg.out,if_neg];rintro(h|h)
          ·have:=dh.out;rw[h] at this;simp at this
          ·have:=dh.out;rw[decide_eq_true h,Bool.or_true] at this;cases this)
         go_wp2;go_meet;exact⟨by rw[he.out],rfl⟩
        ·have he:Hid (mk=1):=hid (by
          rw[<-kg.out,if_pos];have:=dh.out;rw[Bool.or_eq_true,decide_eq_true_iff] at this;exact this)
         go_wp2;go_meet;exact⟨by rw[he.out];rfl,rfl⟩
       case rest=>
       obtain⟨rfl,rfl⟩:=hcut;go_wp2_with (fail);refine(wm.out _).mono ?_;rintro e w'⟨rfl,rfl⟩;go_upto_region 29 with fail
       rw[<-vg.out];have pq:=yw;have bg:=pq.out;have gq:=hid (zuu bg.2.1 (.int .u8 kc) (.int .i64 num) (.bool bl) (.int .i64 ((si:Int)+(k:Int)+1+(mk:Int))));have hbz:=hid (zl2 bg.2.2.2 (.int .u8 kc) (.int .i64 num) (.bool bl) (.int .i64 ((si:Int)+(k:Int)+1+(mk:Int))));have c0:=za0 bg.2.2.1 0 _ rfl;have c1:=za0 bg.2.2.1 1 _ rfl;have c2:=za0 bg.2.2.1 2 _ rfl;have c3:=za0 bg.2.2.1 3 _ rfl;have d0:=za0 bg.2.1 0 _ rfl;have d1:=za0 bg.2.1 1 _ rfl;have d2:=za0 bg.2.1 2 _ rfl;have d3:=za0 bg.2.1 3 _ rfl;have g0:=za7 bg.2.1;clear bg;go_wp2;refine bodyPost_ret (v:=.tuple #[.agg #[.int .u8 kc,.int .i64 num,.bool bl,.int .i64 ((si:Int)+(k:Int)+1+(mk:Int))],.bool true]) (by have z0:=za0 gq.out 0 _ rfl;have z1:=za0 gq.out 1 _ rfl;have z2:=za0 gq.out 2 _ rfl;have z3:=za0 gq.out 3 _ rfl;simp[results,results93,go_sem,z0,z1,z2,z3]) rfl ?_;refine⟨kc,num,bl,(si:Int)+(k:Int)+1+(mk:Int),by rw[ny.out],hid (λ_=>?_),hbz.out⟩;rw[ny.out];exact⟨qy.out.symm,rfl,rfl,by show _=((si+(k+1)+mk:Nat):Int);omega⟩
     ·have hE:=hid (qm.out hlt hm);have hne:Hid (∀c:UInt8,c∈S.zc3 k->¬(r[k].toNat:Int)=(c.toNat:Int)):=hid (λc hc=>by
       intro h;have e:r[k]=c:=Qk.1 (by omega);rw[e] at hm;exact hm hc)
      clear hm;go_upto_region 12 with fail
      go_cut [75] (λs75 wx=>s75=.bool true/\WM=wx)
      case first=>
       by_cases hk0:k=0
       ·have hme:S.zc3 k=[45,43,42]:=(by unfold S.zc3;rw[if_pos hk0]);have e1:¬(r[k].toNat:Int)=45:=hne.out 45 (by rw[hme];decide);have e2:¬(r[k].toNat:Int)=43:=hne.out 43 (by rw[hme];decide);have e3:¬(r[k].toNat:Int)=42:=hne.out 42 (by rw[hme];decide);have k1:((k:Int) == 0)=true:=(by rw[beq_iff_eq];omega);have k3:¬0<k:=(by omega);clear hme hk0;go_wp2;go_meet;exact⟨by first|rfl|simp[k1,e1,e2,e3],rfl⟩
       ·have hme:S.zc3 k=[46,41]:=(by unfold S.zc3;rw[if_neg hk0]);have e4:¬(r[k].toNat:Int)=46:=hne.out 46 (by rw[hme];decide);have e5:¬(r[k].toNat:Int)=41:=hne.out 41 (by rw[hme];decide);have k1:((k:Int) == 0)=false:=(by rw[Qe];omega);have k2:(0:Int)<(k:Int):=(by omega);have k3:0<k:=(by omega);clear hme hk0;go_wp2;go_meet;exact⟨by first|rfl|(simp;exact⟨e4,e5⟩),rfl⟩
      case rest=>
      obtain⟨rfl,rfl⟩:=hcut;have bg:=jk.out;have z0:=zuu bg.2.1 (.int .u8 0) (.int .i64 (-1)) (.bool false) (.int .i64 0);have hbz:=hid (zl2 bg.2.2.2 (.int .u8 0) (.int .i64 (-1)) (.bool false) (.int .i64 0));have hz:=hid z0;have c0:=za0 bg.2.2.1 0 _ rfl;have c1:=za0 bg.2.2.1 1 _ rfl;have c2:=za0 bg.2.2.1 2 _ rfl;have c3:=za0 bg.2.2.1 3 _ rfl;have d0:=za0 bg.2.1 0 _ rfl;have d1:=za0 bg.2.1 1 _ rfl;have d2:=za0 bg.2.1 2 _ rfl;have d3:=za0 bg.2.1 3 _ rfl;have g0:=za7 bg.2.1;clear bg z0;go_wp2;refine bodyPost_ret (v:=.tuple #[.agg #[.int .u8 0,.int .i64 (-1),.bool false,.int .i64 0],.bool false]) (by have z0:=za0 hz.out 0 _ rfl;have z1:=za0 hz.out 1 _ rfl;have z2:=za0 hz.out 2 _ rfl;have z3:=za0 hz.out 3 _ rfl;simp[results,results93,go_sem,z0,z1,z2,z3]) rfl ?_;exact⟨0,-1,false,0,by rw[hE.out],hid (λh=>by rw[hE.out] at h;cases h),hbz.out⟩
namespace S
def zys (l:List UInt8):Bool:=blank l||zbz l||decide (0<zaq l)||(fence l).ok||zat l||((item l).ok&&(!(item l).empty&&((item l).number == -1||(item l).number == 1)))
theorem zyd (l:List UInt8):zco l=(decide (0<zab l)||zys l):=by
 unfold zco zys;cases blank l<;>cases decide (0<zab l)<;>cases zbz l<;>cases decide (0<zaq l)<;>cases (fence l).ok<;>cases zat l<;>rfl
theorem zse (l:List UInt8)(h:(fence l).ok=true):3<=(fence l).width:=by
 unfold fence at h ⊢;split at h
 ·cases h
 ·split at h
  ·rename_i c t hc hcc;simp only[hcc,if_true];simp only[zcj,Bool.and_eq_true,decide_eq_true_eq] at h;exact h.1
  ·cases h
end S
theorem zyc (s:ByteArray)(w:World)(hs:s.size<=1000000):Calls prog 144 #[.string s] w λe w'=>e=.returned (.bool (S.zys s.data.toList))/\Below w.heap.size w w':=by
 have hA:=hid ((zc7 s w hs).mono (λe w' ⟨h1,h2⟩=>(⟨h1,h2.symm⟩:e=_/\w=w')));have hB:=hid ((zmj s w hs).mono (λe w' ⟨h1,h2⟩=>(⟨h1,h2.symm⟩:e=_/\w=w')));have hC:=hid (znh s w hs);have hD:=hid (znl s w hs);have hE:=hid ((zg2 s w hs).mono (λe w' ⟨h1,h2⟩=>(⟨h1,h2.symm⟩:e=_/\w=w')));have hF:=hid (zio s w hs);obtain⟨R,hR⟩:=Qyy (S.zys s.data.toList);have dw:R=(S.blank s.data.toList||S.zbz s.data.toList||decide (0<S.zaq s.data.toList)||(S.fence s.data.toList).ok||S.zat s.data.toList||((S.item s.data.toList).ok&&(!(S.item s.data.toList).empty&&((S.item s.data.toList).number == -1||(S.item s.data.toList).number == 1)))):=by rw[<-hR];rfl
 rw[hR];have dh:=hid dw;obtain⟨a,ha⟩:=Qyy (S.blank s.data.toList);obtain⟨b,hb⟩:=Qyy (S.zbz s.data.toList);obtain⟨c,hc⟩:=Qyy (S.zaq s.data.toList);obtain⟨q,hq⟩:=Qyy (S.zat s.data.toList);rw[ha,hb,hc,hq] at dh;rw[ha] at hA;rw[hb] at hB;rw[hc] at hC;rw[hq] at hE;clear ha hb hc hq hR dw;go_enter func144,ntmps144;go_wp2_with fail
 refine hA.out.mono ?_;rintro e w'⟨rfl,rfl⟩;go_wp2_with fail
 refine hB.out.mono ?_;rintro e w'⟨rfl,rfl⟩;go_wp2_with fail
 refine hC.out.mono ?_;rintro e w'⟨X,rfl,_,rfl⟩;go_wp2_with fail
 refine hD.out.mono ?_;rintro e w'⟨m,k,x,rfl,hfe,rfl⟩;go_wp2_with fail
 refine hE.out.mono ?_;rintro e w'⟨rfl,rfl⟩;go_wp2_with fail
 refine hF.out.mono ?_;rintro e w1⟨ik,inn,ib,im,rfl,hit,hbw⟩;have hRR:Hid (R=(a||b||decide ((0:Int)<(c:Int))||decide ((0:Int)<k)||q||((S.item s.data.toList).ok&&(!ib&&(inn == -1||inn == 1))))):=hid (by
  rw[dh.out];have h1:(S.fence s.data.toList).ok=decide ((0:Int)<k):=by
   have:=hfe.out.2;split at this
   ·rename_i h;rw[h];symm
    rw[decide_eq_true_iff,this.2.1];have:=S.zse _ h;omega
   ·rename_i h;rw[this];simpa using h
  have h2:decide (0<c)=decide ((0:Int)<(c:Int)):=by rw[decide_eq_decide];omega
  rw[h1,h2];congr 1
  cases hok:(S.item s.data.toList).ok with
  | false=>rfl
  | true=>
   obtain⟨_,i2,i3,_⟩:=hit.out hok;rw[i2,i3])
 obtain⟨f,hf⟩:=Qyy ((S.item s.data.toList).ok);rw[hf] at hRR ⊢;have bg:=hid hbw;clear hf hfe hit dh hbw;go_wp2;all_goals
  go_ret;exact⟨zb1 (by rw[hRR.out];first|(simp[*];done)|(simp[*];left;left;left;omega)),bg.out.alloc bg.out.size _⟩
end Go.Proofs.YtlojgpkajkedeaaGreatDoor
