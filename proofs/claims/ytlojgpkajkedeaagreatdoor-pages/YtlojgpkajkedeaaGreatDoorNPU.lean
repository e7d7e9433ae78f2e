import Derived.Test.YtlojgpkajkedeaaGreatDoorNC2
import Derived.Test.YtlojgpkajkedeaaGreatDoorNPB
import Derived.Test.YtlojgpkajkedeaaGreatDoorNTH
import Derived.Laws.IdiomStrings
set_option maxHeartbeats 16000000
set_option maxRecDepth 100000
namespace Go.Proofs.YtlojgpkajkedeaaGreatDoor
open Go.RowKit Go.Proofs.Tryz
theorem z2a (a:List UInt8)(x:ByteArray):S.B a++x=S.B (a++x.data.toList):=by
 have h:(S.B a++x).data=(S.B (a++x.data.toList)).data:=by simp[S.B,ByteArray.data_append]
 exact ByteArray.ext h
theorem z5s (x:ByteArray)(a:List UInt8):x++S.B a=S.B (x.data.toList++a):=by
 have h:(x++S.B a).data=(S.B (x.data.toList++a)).data:=by simp[S.B,ByteArray.data_append]
 exact ByteArray.ext h
theorem zv5 (c:UInt8)(v:Int)(h:(c.toNat:Int)=v)(wx:World):(convert 45 9 (.slice (some ⟨wx.heap.size,0,none⟩) 1 1)).run prog (wx.alloc (.cells #[.int .u8 v] 5))=.ok (.string ⟨#[c]⟩) (wx.alloc (.cells #[.int .u8 v] 5)):=by
 refine run_convert_bytes_back _ 45 9 5 ⟨wx.heap.size,0,none⟩ 1 [c] underlying45 underlying5 underlying9 ?_;intro j hj;have:j=0:=by simpa using hj
 subst this;rw[<-h];exact World.news_of_block (za1 _ _) 0 _ rfl
def znr:Value->Nat
 | .string s=>if s.size=0 then 1 else 0
 | _=>0
def zuv (n q:Nat)(r:List UInt8):Prop:=(r=[]/\q=n)\/(r≠[]/\(q=0->Lib.decDigits n=r)/\(0<q->Lib.decDigits n=Lib.decDigits q++r))
theorem zjf (q:Nat)(h:q<10):Lib.decDigits q=[UInt8.ofNat (48+q)]:=by rw[Lib.decDigits,dif_pos h]
theorem zrw (q:Nat)(h:¬q<10):Lib.decDigits q=Lib.decDigits (q / 10)++[UInt8.ofNat (48+q % 10)]:=by rw[Lib.decDigits,dif_neg h]
theorem zuv.step {n q:Nat}{r:List UInt8}(h:zuv n q r)(hg:0<q\/r=[]):zuv n (q / 10) (UInt8.ofNat (48+q % 10)::r):=by
 right
 refine⟨by simp,?_,?_⟩
 ·intro h0;have hq:q<10:=by omega
  rw[Nat.mod_eq_of_lt hq];rcases h with ⟨h1,h2⟩|⟨h1,h2,h3⟩
  ·subst h1 h2;rw[zjf q hq]
  ·rcases hg with hg|hg
   ·rw[h3 hg,zjf q hq];rfl
   ·exact absurd hg h1
 ·intro h0;have hq:¬q<10:=by omega
  rcases h with ⟨h1,h2⟩|⟨h1,h2,h3⟩
  ·subst h1 h2;rw[zrw q hq]
  ·rw[h3 (by omega),zrw q hq];simp
inductive Tr where
 | mk (k n:Int) (info text:ByteArray) (kids:List Tr)
theorem zf3 (s:ByteArray)(w:World)(hs:s.size<=10000000):Calls prog 146 #[.string s] w λe w'=>e=.returned (.string (S.B (S.escH s.data.toList)))/\w'=w:=by
 go_enter func146,ntmps146;go_wp2;go_loop [3,4] (λt i=>∃k:Nat,k<=s.size/\i=.int .i64 k/\t=.string (S.B (S.escH (s.data.toList.take k)))) (λ_ i=>s.size-(intOf i).toNat)
 case atStart=>exact⟨0,Qt _,rfl,rfl⟩
 case round=>
  obtain⟨k,hk,rfl,rfl⟩:=hrel;by_cases hlt:k<s.size
  ·have hg:s.data.toList[k]?=some s[k]:=S.zad s k hlt;have hsn:=S.zqw _ k _ hg;have hle:=S.zc9 (s.data.toList.take k);rw[Ql,S.lda] at hle;obtain⟨T,hT⟩:=Qyy (S.B (S.escH (s.data.toList.take k)));have dw:T.size<=60000000:=by rw[<-hT,S.zav];omega
   have hfin:Hid (∀x:ByteArray,S.esc1 s[k]=x.data.toList->T++x=S.B (S.escH (s.data.toList.take (k+1)))):=hid (λx hx=>by rw[<-hT,z2a,hsn,hx]);have hcI:(0:Int)<=(k:Int):=by omega
   have dh:(k:Int)<(s.size:Int):=by omega
   have bg:(k:Int)+1<=(s.size:Int):=by omega
   rw[hT];obtain⟨c,hc⟩:=Qyy (s[k]);have hbyte:s[k].toNat<256:=s[k].toNat_lt;clear hsn hle hT hg;by_cases h0:c=38
   ·have hx:=hid (hfin.out ⟨#[38,97,109,112,59]⟩ (by rw[hc,h0];rfl));have hcn:s[k].toNat=38:=(by rw[hc,h0];rfl);clear h0 hc hfin;go_wp2;go_round
    case rel=>exact⟨k+1,by omega,by go_num,by rw[hx.out]⟩
    case measure=>simp[intOf];omega
   by_cases h1:c=60
   ·have hx:=hid (hfin.out ⟨#[38,108,116,59]⟩ (by rw[hc,h1];rfl));have hcn:s[k].toNat=60:=(by rw[hc,h1];rfl);have hb0:(((s[k].toNat:Nat):Int) == 38)=false:=(by rw[Qe,hc];intro e;exact h0 (Qk.1 (Int.ofNat_inj.1 e)));clear h0 h1 hc hfin;go_wp2;go_round
    case rel=>exact⟨k+1,by omega,by go_num,by rw[hx.out]⟩
    case measure=>simp[intOf];omega
   by_cases h2:c=62
   ·have hx:=hid (hfin.out ⟨#[38,103,116,59]⟩ (by rw[hc,h2];rfl));have hcn:s[k].toNat=62:=(by rw[hc,h2];rfl);have hb0:(((s[k].toNat:Nat):Int) == 38)=false:=(by rw[Qe,hc];intro e;exact h0 (Qk.1 (Int.ofNat_inj.1 e)));have hb1:(((s[k].toNat:Nat):Int) == 60)=false:=(by rw[Qe,hc];intro e;exact h1 (Qk.1 (Int.ofNat_inj.1 e)));clear h0 h1 h2 hc hfin;go_wp2;go_round
    case rel=>exact⟨k+1,by omega,by go_num,by rw[hx.out]⟩
    case measure=>simp[intOf];omega
   by_cases h3:c=34
   ·have hx:=hid (hfin.out ⟨#[38,113,117,111,116,59]⟩ (by rw[hc,h3];rfl));have hcn:s[k].toNat=34:=(by rw[hc,h3];rfl);have hb0:(((s[k].toNat:Nat):Int) == 38)=false:=(by rw[Qe,hc];intro e;exact h0 (Qk.1 (Int.ofNat_inj.1 e)));have hb1:(((s[k].toNat:Nat):Int) == 60)=false:=(by rw[Qe,hc];intro e;exact h1 (Qk.1 (Int.ofNat_inj.1 e)));have hb2:(((s[k].toNat:Nat):Int) == 62)=false:=(by rw[Qe,hc];intro e;exact h2 (Qk.1 (Int.ofNat_inj.1 e)));clear h0 h1 h2 h3 hc hfin;go_wp2;go_round
    case rel=>exact⟨k+1,by omega,by go_num,by rw[hx.out]⟩
    case measure=>simp[intOf];omega
   have hx:=hid (hfin.out (s.extract k (k+1)) (by
    rw[hc];have h5:S.esc1 c=[c]:=(by unfold S.esc1;rw[if_neg h0,if_neg h1,if_neg h2,if_neg h3]);have hg:s.data.toList[k]?=some s[k]:=S.zad s k hlt;obtain⟨hl1,hl2⟩:=Qb.1 hg;rw[h5,S.extract_data,Qm hl1,hl2,hc];simp))
   have hb0:(((s[k].toNat:Nat):Int) == 38)=false:=by rw[Qe,hc];intro e;exact h0 (Qk.1 (Int.ofNat_inj.1 e))
   have hb1:(((s[k].toNat:Nat):Int) == 60)=false:=by rw[Qe,hc];intro e;exact h1 (Qk.1 (Int.ofNat_inj.1 e))
   have hb2:(((s[k].toNat:Nat):Int) == 62)=false:=by rw[Qe,hc];intro e;exact h2 (Qk.1 (Int.ofNat_inj.1 e))
   have hb3:(((s[k].toNat:Nat):Int) == 34)=false:=by rw[Qe,hc];intro e;exact h3 (Qk.1 (Int.ofNat_inj.1 e))
   clear h0 h1 h2 h3 hc hfin;go_wp2;go_round
   case rel=>exact⟨k+1,by omega,by go_num,by rw[<-hx.out]⟩
   case measure=>simp[intOf];omega
  ·have hke:k=s.size:=by omega
   subst hke;have hfin:Hid (S.escH (s.data.toList.take s.size)=S.escH s.data.toList):=hid (by rw[Qbj (by rw[S.lda];omega)]);rw[hfin.out];go_wp2;go_ret;exact⟨rfl,rfl⟩
theorem zlb (n:Nat)(w:World)(hn:n<=1000000000):Calls prog 145 #[.int .i64 (n:Nat)] w λe w'=>e=.returned (.string (S.B (Lib.decDigits n)))/\Below w.heap.size w w':=by
 go_enter func145,ntmps145;go_wp2;go_loopw [0,3] (λm t wr=>∃(q:Nat) (r:List UInt8),q<=n/\m=.int .i64 q/\t=.string (S.B r)/\r.length+q<=n+1/\Hid (zuv n q r/\Below w.heap.size w wr)) (λm t _=>(intOf m).toNat+znr t)
 case atStart=>exact⟨n,[],Qc _,rfl,rfl,by simp,hid ⟨.inl ⟨rfl,rfl⟩,Below.refl _ _⟩⟩
 case round=>
  obtain⟨q,r,hq,rfl,rfl,hrl,hR⟩:=hrel;have hsz:(S.B r).size<=2000000000:=by rw[S.zav];omega
  by_cases hg:0<q\/r=[]
  ·have hst:=hid (hR.out.1.step hg);obtain⟨c,hc⟩:∃c:UInt8,c=UInt8.ofNat (48+q % 10):=⟨_,rfl⟩;have hcn:(c.toNat:Int)=48+(q:Int) % 10:=by
    rw[hc];have:(UInt8.ofNat (48+q % 10)).toNat=48+q % 10:=(by simp[UInt8.toNat_ofNat'];omega);rw[this];omega
   have hcv:=zv5 c (48+(q:Int) % 10) hcn wr;have hq1:(0:Int)<=(q:Int):=by omega
   rw[<-hc] at hst;have hbr:Hid (∀ob,Below w.heap.size w (wr.alloc ob)):=hid (λob=>hR.out.2.alloc hR.out.2.size ob);have hap:Hid ((⟨#[c]⟩:ByteArray)++S.B r=S.B (c::r)):=hid (by rw[z5s];rfl);have hdv:Hid (Value.int .i64 ((q:Int) / 10)=.int .i64 ((q / 10:Nat):Int)):=hid (by congr 1);by_cases hq0:0<q
   ·have dw:(0:Int)<(q:Int):=(by omega);clear hg hc hcn;go_wp2;go_roundw
    case rel=>exact⟨q / 10,c::r,by omega,hdv.out,by rw[hap.out],by rw[Qd];omega,hid ⟨hst.out,hbr.out _⟩⟩
    case measure=>
     have h1:znr (.string ((⟨#[c]⟩:ByteArray)++S.B r))=0:=by
      rw[hap.out];simp only[znr];rw[if_neg (by rw[S.zav];simp)]
     rw[h1];simp only[intOf];omega
   ·have hr:r=[]:=by
     rcases hg with h|h
     ·exact absurd h hq0
     ·exact h
    have bg:q=0:=(by omega);subst hr bg;have hE:(S.B ([]:List UInt8)).toList.isEmpty=true:=(by rw[ByteArray.toList_eq,S.zaz];rfl);have dh:=zv5 c 48 (by rw[hcn];rfl) wr;clear hg hc hcn hq1 hcv;go_wp2;go_roundw
    case rel=>exact⟨0,[c],by omega,rfl,by rw[hap.out],by simp,hid ⟨hst.out,hbr.out _⟩⟩
    case measure=>
     have h1:znr (.string ((⟨#[c]⟩:ByteArray)++S.B ([]:List UInt8)))=0:=by
      rw[hap.out];simp only[znr];rw[if_neg (by rw[S.zav];simp)]
     have h2:znr (.string (S.B ([]:List UInt8)))=1:=rfl;rw[h1,h2];simp[intOf]
  ·have hq0:q=0:=by omega
   have hr:r≠[]:=λh=>hg (.inr h);subst hq0;have hfin:Hid (S.B r=S.B (Lib.decDigits n)):=hid (by
    rcases hR.out.1 with ⟨h1,_⟩|⟨_,h2,_⟩
    ·exact absurd h1 hr
    ·rw[h2 rfl])
   have hE:(S.B r).toList.isEmpty=false:=by
    rw[ByteArray.toList_eq,S.zaz];cases r with
    | nil=>exact absurd rfl hr
    | cons c r=>rfl
   have hRR:=hid hR.out.2;clear hg hr hR;go_wp2;go_ret;exact⟨by rw[<-hfin.out];rfl,hRR.out⟩
mutual
def rPl:Rn->List UInt8
 | .nd k _ _ t _ ks=>if k=8\/k=11 then t else if k=9\/k=10 then [32] else rPls ks
def rPls:List Rn->List UInt8
 | []=>[]
 | n::r=>rPl n++rPls r
end
mutual
def byR:Rn->Nat
 | .nd _ _ i t _ ks=>1+i.length+t.length+byRs ks
def byRs:List Rn->Nat
 | []=>0
 | n::r=>byR n+byRs r
end
theorem zsp (a b:List Rn):rPls (a++b)=rPls a++rPls b:=by
 induction a with
 | nil=>simp[rPls]
 | cons x r ih=>simp only[List.cons_append,rPls,ih,Qp]
theorem zt0 (a b:List Rn):byRs (a++b)=byRs a+byRs b:=by
 induction a with
 | nil=>simp[byRs]
 | cons x r ih=>simp only[List.cons_append,byRs,ih,Nat.add_assoc]
theorem zol (l:List Rn):l.length<=byRs l:=by
 induction l with
 | nil=>simp
 | cons x r ih=>cases x;simp only[Qd,byRs,byR];omega
theorem zoz (l:List Rn)(i:Nat)(t:Rn)(h:l[i]?=some t):byR t<=byRs l:=by
 induction l generalizing i with
 | nil=>simp at h
 | cons x r ih=>
  simp only[byRs];cases i with
  | zero=>simp at h;subst h;omega
  | succ i=>have:=ih i (by simpa using h);omega
theorem zlo (l:List Rn)(k:Nat):byRs (l.take k)<=byRs l:=by
 have h:byRs (l.take k)+byRs (l.drop k)=byRs l:=by rw[<-zt0,List.take_append_drop]
 omega
mutual
theorem z4y (n:Rn):(rPl n).length<=byR n:=by
 cases n with
 | nd k n i t l ks=>
  have:=zi8 ks;simp only[rPl,byR];split
  ·omega
  ·split
   ·simp;omega
   ·omega
theorem zi8 (l:List Rn):(rPls l).length<=byRs l:=by
 cases l with
 | nil=>simp[rPls]
 | cons x r=>
  have h1:=z4y x;have h2:=zi8 r;simp only[rPls,byRs,Qa];omega
end
theorem zym (l:List Rn)(k:Nat)(t:Rn)(h:l[k]?=some t):rPls (l.take (k+1))=rPls (l.take k)++rPl t:=by
 rw[List.take_add_one,h,zsp];simp[rPls]
theorem znp (A:Nat->Prop)(w:World)(v:Value)(ns:List Rn)(h:RepN w A v ns):byRs ns<=100000000 ->
  Calls prog 101 #[v] w λe w'=>e=.returned (.string (S.B (rPls ns)))/\w'=w:=by
 induction h with
 | nil=>
  intro hd;clear hd;go_enter func101,ntmps101;go_wp2;refine wp_loop_rounds 1 ?_;rw[rounds_succ];go_wp2;go_ret;exact⟨rfl,rfl⟩
 | some b o cap ns kv ha hcap hc hkk ih=>
  intro hd;have hnl:=zol ns;have hlen:ns.length<=100000000:=by omega
  have fq:=hid hc;have dh:=hid hkk;have dx:=hid ih;have dw:=hid hd;clear hc hkk ih ha;go_enter func101,ntmps101;go_wp2;go_loop [3,4] (λt i=>∃k:Nat,k<=ns.length/\i=.int .i64 k/\t=.string (S.B (rPls (ns.take k)))) (λ_ i=>ns.length-(intOf i).toNat)
  case atStart=>exact⟨0,Qt _,rfl,by simp[rPls];rfl⟩
  case round=>
   obtain⟨k,hk,rfl,rfl⟩:=hrel;by_cases hlt:k<ns.length
   ·obtain⟨t,ht⟩:∃t,ns[k]?=some t:=⟨ns[k],Qg hlt⟩;have hct:=fq.out k t ht;have bg:=dh.out k t ht;have hgt:=zoz ns k t ht;have ihk:=dx.out k t ht;have hsn:=zym ns k t ht;have hle:=zi8 (ns.take k);have htk:=zlo ns k;obtain⟨ka,kn,kc,hkv⟩:=bg.form;rw[hkv] at hct ihk;obtain⟨T,hT⟩:=Qyy (S.B (rPls (ns.take k)));have jd:T.size<=100000000:=(by rw[<-hT,S.zav];omega);have hfin:Hid (∀x:ByteArray,rPl t=x.data.toList->T++x=S.B (rPls (ns.take (k+1)))):=hid (λx hx=>by rw[<-hT,z2a,hsn,hx]);rw[hT];cases t with
    | nd kd n inf tx li ks=>
    simp only[rPl] at hfin;simp only[byR] at hgt;simp only[Rn.kids] at ihk;have c1:w.cell? ⟨b,o+k*7+1,none⟩=some (.int .i64 kd):=hct 1 _ rfl;have c4:w.cell? ⟨b,o+k*7+4,none⟩=some (.string (S.B tx)):=hct 4 _ rfl;have c6:w.cell? ⟨b,o+k*7+6,none⟩=some (.slice ka kn kc):=hct 6 _ rfl;have jg:(k:Int)<(ns.length:Int):=(by omega);have hJ0:(0:Int)<=(k:Int):=(by omega);have htz:(S.B tx).size<=100000000:=(by rw[S.zav];have:=dw.out;omega);have gq:=zi8 ks;have hpz:(S.B (rPls ks)).size<=100000000:=(by rw[S.zav];have:=dw.out;omega);have gy:=hid (ihk (by have:=dw.out;omega));clear hct bg ihk hkv hsn hle htk hT ht hgt gq;by_cases h8:kd=8
    ·have hx:=hid (hfin.out (S.B tx) (by rw[if_pos (.inl h8),S.zaz]));subst h8;clear hfin;go_wp2;go_round
     case rel=>exact⟨k+1,by omega,by go_num,by rw[hx.out]⟩
     case measure=>simp[intOf];omega
    have g8:(kd == 8)=false:=(by rw[Qe];exact h8);by_cases h11:kd=11
    ·have hx:=hid (hfin.out (S.B tx) (by rw[if_pos (.inr h11),S.zaz]));subst h11;clear hfin;go_wp2;go_round
     case rel=>exact⟨k+1,by omega,by go_num,by rw[hx.out]⟩
     case measure=>simp[intOf];omega
    have g11:(kd == 11)=false:=(by rw[Qe];exact h11);have hne:¬(kd=8\/kd=11):=λe=>e.elim h8 h11;by_cases h9:kd=9
    ·have hx:=hid (hfin.out ⟨#[32]⟩ (by rw[if_neg hne,if_pos (.inl h9)]));subst h9;clear hfin hne;go_wp2;go_round
     case rel=>exact⟨k+1,by omega,by go_num,by rw[hx.out]⟩
     case measure=>simp[intOf];omega
    have g9:(kd == 9)=false:=(by rw[Qe];exact h9);by_cases h10:kd=10
    ·have hx:=hid (hfin.out ⟨#[32]⟩ (by rw[if_neg hne,if_pos (.inr h10)]));subst h10;clear hfin hne;go_wp2;go_round
     case rel=>exact⟨k+1,by omega,by go_num,by rw[hx.out]⟩
     case measure=>simp[intOf];omega
    have g10:(kd == 10)=false:=(by rw[Qe];exact h10);have hx:=hid (hfin.out (S.B (rPls ks)) (by rw[if_neg hne,if_neg (λe=>e.elim h9 h10),S.zaz]));clear hfin hne;go_wp2_with (fail);refine gy.out.mono ?_;rintro e w'⟨rfl,rfl⟩;go_wp2;go_round
    case rel=>exact⟨k+1,by omega,by go_num,by rw[hx.out]⟩
    case measure=>simp[intOf];omega
   ·have hkl:k=ns.length:=(by omega);subst hkl;rw[Qbl];go_wp2;go_ret;exact⟨rfl,rfl⟩
end Go.Proofs.YtlojgpkajkedeaaGreatDoor
