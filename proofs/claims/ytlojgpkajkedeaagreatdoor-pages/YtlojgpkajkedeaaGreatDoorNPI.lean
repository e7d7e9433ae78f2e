import Derived.Test.YtlojgpkajkedeaaGreatDoorNE24
import Derived.Test.YtlojgpkajkedeaaGreatDoorNXM
set_option maxHeartbeats 16000000
set_option maxRecDepth 100000
namespace Go.Proofs.YtlojgpkajkedeaaGreatDoor
open Go.RowKit Go.Proofs.Tryz
namespace S
theorem z4f (l:List UInt8)(a:Nat):l.foldl (λa b=>a*10+(b.toNat-48)) a<=(a+300)*10 ^ l.length:=by
 induction l generalizing a with
 | nil=>simp
 | cons b l ih=>
  have h1:=ih (a*10+(b.toNat-48));have h2:=b.toNat_lt;rw[List.foldl_cons,Qd,Nat.pow_succ];refine Qj h1 ?_;have h3:a*10+(b.toNat-48)+300<=(a+300)*10:=by omega
  refine Qj (Nat.mul_le_mul_right _ h3) (Nat.le_of_eq ?_);rw[Nat.mul_assoc,Nat.mul_comm 10]
theorem zre (l:List UInt8)(h:l.length<=6) : -1<=number l/\number l<=300000000:=by
 unfold number;split
 ·omega
 ·have h1:=z4f l 0;have h2:10 ^ l.length<=10 ^ 6:=Nat.pow_le_pow_right (by decide) h;have h3:dec l<=(0+300)*10 ^ 6:=Qj h1 (Nat.mul_le_mul_left _ h2);omega
theorem zr0 (l:List UInt8):za5 l<=7:=by
 unfold za5;split
 ·omega
 ·split
  ·omega
  ·split<;>omega
theorem zlm (l:List UInt8) : -1<=(item l).number/\(item l).number<=300000000:=by
 unfold item;split
 ·exact⟨by decide,by decide⟩
 ·have:=zr0 (shallow l);exact zre _ (by rw[Ql];omega)
theorem ziw (l:List UInt8):zaq l<=6:=by unfold zaq;split<;>omega
theorem zkf (l:List UInt8):zab l<=2:=by
 unfold zab;split
 ·omega
 ·split<;>omega
theorem zvg (l:List UInt8):(fence l).info.length<=l.length:=by
 have h0:=zk9 l;unfold fence;split
 ·simp
 ·rename_i c t hc;split
  ·have:=zhm ((c::t).drop (cnt c (c::t))) 32;rw[Qf] at this;rw[hc] at h0;show (zdj (c::t) c).length<=_;unfold zdj;omega
  ·simp
theorem zsq (rows:List (List UInt8)):(zbn rows).length<=tt rows:=by
 induction rows with
 | nil=>simp[zbn]
 | cons x r ih=>
  rw[zcs];simp only[zbn,Qs,List.flatten_cons,Qa,Qf,List.length_singleton] at *;omega
theorem zod (ind:Nat)(rows:List (List UInt8)):(zam ind rows).length<=tt rows:=by
 induction rows with
 | nil=>simp[zam]
 | cons x r ih=>
  rw[zcs];simp only[zam,Qs,List.flatten_cons,Qa,Qf,List.length_singleton] at *;omega
end S
theorem z00 (z:Int)(b:S.Blk):fitB (b.put z)↔fitB b:=by cases b;simp only[S.Blk.put,fitB]
theorem z3f (z:Int)(b:S.Blk):pgB (b.put z)=pgB b:=by cases b;simp only[S.Blk.put,pgB]
theorem zjg (z k n:Int)(i t:List UInt8)(lo:Bool)(ks:List S.Blk)(h0 : -1<=n)(h1:n<=300000000)(hi:i.length<=300000)(ht:t.length<=300000)(hk:fitL ks):fitB (.at_ z k n i t lo ks):=by
 simp only[fitB];exact⟨by omega,by omega,hi,ht,hk⟩
theorem zyz (sub:List (List UInt8)->List S.Blk × Bool)(hs:∀x,S.tt x<=300000->fitL (sub x).1/\pgL (sub x).1<=400*S.tt x)(kind:UInt8)(Z f:Nat)(l:List UInt8)(r:List (List UInt8))(hok:(S.item l).ok=true)(ht:S.tt (l::r)<=300000):fitL (S.zau sub kind Z f (S.item l) (l::r)).1/\pgL (S.zau sub kind Z f (S.item l) (l::r)).1+280*min f 1<=400*S.tt ((l::r).take (S.zau sub kind Z f (S.item l) (l::r)).2.2):=by
 induction f generalizing l r with
 | zero=>simp[S.zau,pgL,fitL]
 | succ f ih=>
  have hi:=S.zx4 l r hok;have hle:=S.zdw (l::r) (S.zah (S.item l) (l::r)).length;have hw:=hs (S.zah (S.item l) (l::r)) (by omega);rw[S.zdd];obtain⟨a,ha⟩:=Qyy ((S.zah (S.item l) (l::r)).length);obtain⟨g,hg⟩:=Qyy (S.za6 ((l::r).drop a));rw[ha] at hi ⊢;rw[hg];have hm:min (f+1) 1=1:=by omega
  rw[hm];by_cases hn:(S.zaw kind ((l::r).drop (a+g))).ok=true
  ·rw[if_pos hn];cases hd:(l::r).drop (a+g) with
   | nil=>rw[hd] at hn;simp[S.zaw] at hn
   | cons l2 r2=>
    rw[hd] at hn;have hy:=S.zf9 kind l2 r2 hn;have hsp:=S.zgf (l::r) (a+g);rw[hd] at hsp;have:=ih l2 r2 hy.2.2 (by omega);rw[hy.1];have e:=S.zts (l::r) (a+g) (S.zau sub kind Z f (S.item l2) (l2::r2)).2.2;rw[hd] at e;have e2:=S.zf8 (l::r) a (a+g) (by omega);dsimp only;refine⟨?_,?_⟩
    ·simp only[fitL];exact⟨zjg _ _ _ _ _ _ _ (by decide) (by decide) (by simp) (by simp) hw.1,this.1⟩
    ·simp only[pgL,pgB,Qi];rw[e];omega
  ·rw[if_neg hn];dsimp only;refine⟨?_,?_⟩
   ·simp only[fitL];exact⟨zjg _ _ _ _ _ _ _ (by decide) (by decide) (by simp) (by simp) hw.1,trivial⟩
   ·simp only[pgL,pgB,Qi];omega
theorem zwa (sub:List (List UInt8)->List S.Blk × Bool)(hs:∀x,S.tt x<=300000->fitL (sub x).1/\pgL (sub x).1<=400*S.tt x)(x:List UInt8)(r:List (List UInt8))(ht:S.tt (x::r)<=300000):fitB (S.zaf sub (x::r)).1/\pgB (S.zaf sub (x::r)).1<=400*S.tt ((x::r).take (S.zaf sub (x::r)).2)/\1<=(S.zaf sub (x::r)).1.kind/\(S.zaf sub (x::r)).1.kind<=6:=by
 have hz:=S.zfk sub x r;have h0:=S.ztg x r _ hz.1;have hx:x.length+1<=300000:=by rw[S.zcs] at ht;omega
 clear hz;obtain⟨v,hv⟩:=Qyy (S.zaf sub (x::r));rw[hv] at h0 ⊢;unfold S.zaf at hv;dsimp only at hv;split at hv
 ·subst hv;have h1:=S.zsq ((x::r).take (S.zax 4 (x::r)));have h2:=S.zdw (x::r) (S.zax 4 (x::r));refine⟨zjg _ _ _ _ _ _ _ (by decide) (by decide) (by simp) (by omega) (by simp[fitL]),?_,show (1:Int)<=3 by decide,show (3:Int)<=6 by decide⟩;show 120+6*0+96*(S.zbn ((x::r).take (S.zax 4 (x::r)))).length+0<=400*S.tt ((x::r).take (S.zax 4 (x::r)));have h3:x.length+1<=S.tt ((x::r).take (S.zax 4 (x::r))):=h0;omega
 split at hv
 ·subst hv;refine⟨zjg _ _ _ _ _ _ _ (by decide) (by decide) (by simp) (by simp) (by simp[fitL]),?_,show (1:Int)<=4 by decide,show (4:Int)<=6 by decide⟩;have h3:x.length+1<=S.tt ((x::r).take 1):=h0;show 120+6*0+96*0+0<=400*S.tt ((x::r).take 1);omega
 split at hv
 ·subst hv;have h1:=S.zgm x;have h2:=S.ziw x;refine⟨zjg _ _ _ _ _ _ _ (by omega) (by omega) (by simp) (by omega) (by simp[fitL]),?_,show (1:Int)<=2 by decide,show (2:Int)<=6 by decide⟩;have h3:x.length+1<=S.tt ((x::r).take 1):=h0;show 120+6*0+96*(S.zal x).length+0<=400*S.tt ((x::r).take 1);omega
 split at hv
 ·subst hv;have h1:=S.zvg x;have h3:=S.zod (S.fence x).ind (r.take (S.zb2 (S.fence x).mark (S.fence x).width r));obtain⟨q,hq⟩:=Qyy (S.zb2 (S.fence x).mark (S.fence x).width r);have h4:q<=r.length:=by rw[<-hq];exact S.zpd _ _ _
  have e:(S.zbu (S.fence x) (x::r))=(.mk 3 0 (S.fence x).info (S.zam (S.fence x).ind (r.take q)) false [],min (q+1+1) (r.length+1)):=by
   unfold S.zbu;simp only[List.tail_cons,Qd];rw[hq]
  rw[hq] at h3;rw[e] at h0 ⊢;have h5:S.tt ((x::r).take (q+1))<=S.tt ((x::r).take (min (q+1+1) (r.length+1))):=S.zf8 _ _ _ (by omega);rw[Qz,S.zcs] at h5;have h6:=S.zdw (x::r) (min (q+1+1) (r.length+1));refine⟨zjg _ _ _ _ _ _ _ (by decide) (by decide) (by omega) (by omega) (by simp[fitL]),?_,show (1:Int)<=3 by decide,show (3:Int)<=6 by decide⟩;simp only[pgB,pgL];omega
 split at hv
 ·rename_i h5;subst hv;have hq:=S.zs5 x r h5;have h2:=S.zdw (x::r) (S.zae (x::r)).length;have hw:=hs (S.zae (x::r)) (by omega);refine⟨zjg _ _ _ _ _ _ _ (by decide) (by decide) (by simp) (by simp) hw.1,?_,show (1:Int)<=5 by decide,show (5:Int)<=6 by decide⟩;simp only[pgB,Qi];omega
 split at hv
 ·rename_i h6;subst hv;rw[S.zf5];have hl:=zyz sub hs (S.item x).kind (x::r).length (x::r).length x r h6 ht;rw[show min (x::r).length 1=1 by simp] at hl;have hn:=S.zlm x;refine⟨zjg _ _ _ _ _ _ _ (by omega) (by omega) (by simp) (by simp) hl.1,?_,show (1:Int)<=6 by decide,show (6:Int)<=6 by decide⟩;simp only[pgB,Qi];omega
 ·subst hv;have hp:=S.zus (x::r);have h2:=S.zdw (x::r) (S.za8 (x::r)).2;have hk:(S.za8 (x::r)).1.info=[]/\1<=(S.za8 (x::r)).1.kind/\(S.za8 (x::r)).1.kind<=2/\0<=(S.za8 (x::r)).1.n/\(S.za8 (x::r)).1.n<=2:=by
   unfold S.za8;dsimp only;split
   ·exact⟨rfl,show (1:Int)<=1 by decide,show (1:Int)<=2 by decide,show (0:Int)<=0 by decide,show (0:Int)<=2 by decide⟩
   ·rename_i l _;have:=S.zkf l;split
    ·exact⟨rfl,show (1:Int)<=2 by decide,show (2:Int)<=2 by decide,by show (0:Int)<=((S.zab l:Nat):Int);omega,by show ((S.zab l:Nat):Int)<=2;omega⟩
    ·exact⟨rfl,show (1:Int)<=1 by decide,show (1:Int)<=2 by decide,show (0:Int)<=0 by decide,show (0:Int)<=2 by decide⟩
  obtain⟨b,hb⟩:=Qyy ((S.za8 (x::r)).1);rw[hb] at hp hk ⊢;have e1:=zjb b;obtain⟨z,k,n,i,t,lo,kids⟩:=b;obtain⟨hp1,hp2⟩:=hp;simp only[S.Blk.text,S.Blk.kids,S.Blk.info,S.Blk.kind,S.Blk.n] at hp1 hp2 hk e1;subst hp2;obtain⟨hi0,hk1,hk2,hn1,hn2⟩:=hk;subst hi0;refine⟨zjg _ _ _ _ _ _ _ (by omega) (by omega) (by simp) (by omega) (by simp[fitL]),?_,hk1,by show k<=6;omega⟩;rw[e1];simp only[Qi,pgL];omega
theorem zq4 (sub:List (List UInt8)->List S.Blk × Bool)(hs:∀x,S.tt x<=300000->fitL (sub x).1/\pgL (sub x).1<=400*S.tt x)(Z f:Nat)(row:List (List UInt8))(ht:S.tt row<=300000):fitL (S.rowFrom sub Z f row).1/\pgL (S.rowFrom sub Z f row).1<=400*S.tt row/\∀b∈(S.rowFrom sub Z f row).1,1<=b.kind/\b.kind<=6:=by
 induction f generalizing row with
 | zero=>simp[S.rowFrom,pgL,fitL]
 | succ f ih=>
  cases row with
  | nil=>rw[S.zee];simp[pgL,fitL]
  | cons x r=>
   rw[S.zek _ _ _ _ (by simp)];have h1:=zwa sub hs x r ht;obtain⟨z,hz⟩:=Qyy ((S.zaf sub (x::r)).2);rw[hz] at h1 ⊢;have h3:=S.zgf (x::r) (z+S.za6 ((x::r).drop z));have h2:=ih ((x::r).drop (z+S.za6 ((x::r).drop z))) (by omega);have h4:=S.zf8 (x::r) z (z+S.za6 ((x::r).drop z)) (by omega);dsimp only;refine⟨?_,?_,?_⟩
   ·simp only[fitL];exact⟨(z00 _ _).2 h1.1,h2.1⟩
   ·simp only[pgL,z3f];omega
   ·intro b hb;rcases List.mem_cons.1 hb with rfl|hb
    ·rw[S.Blk.zv0];exact h1.2.2
    ·exact h2.2.2 b hb
theorem zfd (d:Nat)(row:List (List UInt8))(ht:S.tt row<=300000):fitL (S.za2 d row).1/\pgL (S.za2 d row).1<=400*S.tt row/\∀b∈(S.za2 d row).1,1<=b.kind/\b.kind<=6:=by
 induction d generalizing row with
 | zero=>simp[S.za2,pgL,fitL]
 | succ d ih=>
  rw[show S.za2 (d+1) row=S.rowFrom (S.za2 d) row.length row.length (row.drop (S.za6 row)) from rfl];have h2:=S.zgf row (S.za6 row);have h1:=zq4 (S.za2 d) (λx hx=>⟨(ih x hx).1,(ih x hx).2.1⟩) row.length row.length (row.drop (S.za6 row)) (by omega);exact⟨h1.1,by omega,h1.2.2⟩
theorem z06 (tight:Bool)(b:S.Blk)(h:1<=b.kind/\b.kind<=6):zkp zbl tight b≠[]:=by
 obtain⟨z,k,n,i,t,lo,kids⟩:=b;simp only[S.Blk.kind] at h;rw[zv3];(repeat' split)<;>first|omega|simp
theorem zxs (tight:Bool)(ts:List S.Blk)(hne:ts≠[])(h:∀b∈ts,1<=b.kind/\b.kind<=6):zbj zbl tight ts≠[]:=by
 cases ts with
 | nil=>exact absurd rfl hne
 | cons b r=>
  simp only[zbj];intro e;exact z06 tight b (h b (by simp)) (List.append_eq_nil_iff.1 e).1
noncomputable def zmb (l:List UInt8):List UInt8:=zbj zbl false (S.za2 (l.length+1) (S.lines l)).1
theorem zte (b:Nat)(ka:Option Addr)(kc:Nat)(tight:Bool)(w:World):Calls prog 71 #[.pointer (some ⟨b,0,none⟩),.slice ka 0 kc,.bool tight] w λe w'=>e=.returned (.tuple #[])/\w'=w:=by
 go_enter func71,ntmps71;go_wp2;refine wp_loop_rounds 1 ?_;rw[rounds_succ];go_wp2;go_end0;exact⟨rfl,rfl⟩
theorem zyh (A:Nat->Prop)(ka:Option Addr)(kn kc:Nat)(ts:List S.Blk)(w:World)(hA:∀x,A x->x<w.heap.size)(hrep:Rep w A (.slice ka kn kc) ts)(henv:EnvP w.heap.size w)(hfit:fitL ts)(hpg:pgL ts<=1000000000)(hkd:∀b∈ts,1<=b.kind/\b.kind<=6):Calls prog 55 #[.slice ka kn kc] w λe w'=>e=.returned (.string (S.B (zbj zbl false ts)))/\Below w.heap.size w w':=by
 obtain⟨WP,dx⟩:=Qzz (w.alloc (.cells #[.pointer none,.slice none 0 0] 124));have gy:zi7 w.heap.size w.heap.size [] WP:=by rw[dx];exact zwm w
 have hx0:WP.heap[w.heap.size]?=some (.cells #[.pointer none,.slice none 0 0] 124 (0,0)):=by rw[dx];exact za1 _ _
 have dh:Below w.heap.size w WP:=by rw[dx];exact(Below.refl _ _).alloc (Qc _) _
 have jd:w.heap.size<=WP.heap.size:=dh.size;by_cases hts:ts=[]
 ·subst hts;have hkn:kn=0:=(zkx hrep).1;subst hkn;have hC:=hid (zte w.heap.size ka kc false WP);have hS:=hid (zu0 w.heap.size WP hx0);have dw:=hid dx;have bg:=hid dh;obtain⟨R,hR⟩:=Qzz (S.B (zbj zbl false []));rw[<-hR];have gq:Hid (R=⟨#[]⟩):=hid (by rw[hR];rfl);clear dx hx0 gy hrep dh hR hkd hpg hfit hA henv;go_enter func55,ntmps55;go_wp2_with fail
  rw[<-dw.out];refine hC.out.mono ?_;rintro e w1⟨rfl,rfl⟩;go_wp2_with fail
  refine hS.out.mono ?_;rintro e w2⟨rfl,g2⟩;have G2:=hid g2;clear g2;go_wp2;go_ret;exact⟨by rw[gq.out];rfl,bg.out.trans (G2.out.mono jd)⟩
 ·have hne:=zxs false ts hts hkd;have hC:=hid (zrz (pgL ts) ts (Qc _) w.heap.size w.heap.size A w ka kn kc false [] WP hA hrep dh (henv.below dh) gy jd hfit (by simpa using hpg));have fq:=hid hne;have dw:=hid dx;have bg:=hid dh;obtain⟨R,hR⟩:=Qzz (S.B (zbj zbl false ts));rw[<-hR];have gq:=hid hR;clear dx hx0 gy hrep dh hne hts hR hkd hpg hfit hA henv;go_enter func55,ntmps55;go_wp2_with fail
  rw[<-dw.out];refine hC.out.mono ?_;rintro e w1⟨rfl,g1⟩;have hS:=hid (pstring w.heap.size w.heap.size _ w1 g1.1 (by simpa using fq.out));rw[List.nil_append] at hS;have G1:=hid g1.2.1;clear g1;go_wp2_with fail
  refine hS.out.mono ?_;rintro e w2⟨rfl,g2⟩;have G2:=hid g2;clear g2;go_wp2;go_ret;exact⟨by rw[gq.out];rfl,bg.out.trans (G1.out.trans G2.out)⟩
theorem EnvP.mono {B B':Nat}{w:World}(h:EnvP B w)(hB:B<=B'):EnvP B' w:=by
 obtain⟨h1,⟨h2,h3⟩,h4,g,h5,h6⟩:=h;exact⟨h1,⟨by omega,by omega⟩,h4,g,h5,by omega⟩
theorem z0u (s:ByteArray)(w:World)(hs:s.size<=1500)(henv:EnvP w.heap.size w):Calls prog 32 #[.string s] w λe w'=>e=.returned (.tuple #[.string (S.B (zmb s.data.toList)),.int .i64 0])/\Below w.heap.size w w':=by
 have hR:=hid (zue zrc s w (by omega) henv.1);have hwl:=zfd (s.size+1) (S.lines s.data.toList) (by have:=S.zhe s.data.toList;rw[S.lda] at this;omega);have hlt:=S.zhe s.data.toList;rw[S.lda] at hlt;obtain⟨R,hRR⟩:=Qzz (S.B (zmb s.data.toList));rw[<-hRR];have dh:=hid hRR;have bg:Hid (∀ka kn kc w1,Below w.heap.size w w1->Rep w1 (λx=>w.heap.size<=x/\x<w1.heap.size) (.slice ka kn kc) (S.za2 (s.size+1) (S.lines s.data.toList)).1->Calls prog 55 #[.slice ka kn kc] w1 λe w'=>e=.returned (.string R)/\Hid (Below w.heap.size w w')):=hid (λka kn kc w1 h1 h2=>by
  have:=zyh _ ka kn kc _ w1 (λx hx=>hx.2) h2 ((henv.below h1).mono h1.size) hwl.1 (by omega) hwl.2.2;refine this.mono ?_;rintro e w'⟨rfl,h3⟩;refine⟨?_,hid (h1.trans (h3.mono h1.size))⟩;rw[dh.out,zmb,S.lda])
 have hs2:¬(1500:Int)<(s.size:Int):=by omega
 clear hwl hlt hRR henv;go_enter func32,ntmps32;go_wp2_with fail
 refine hR.out.mono ?_;rintro e w1⟨v,rfl,h1,h2⟩;obtain⟨ka,kn,kc,rfl⟩:=h1.form;have hW:=hid (bg.out ka kn kc w1 h2 h1);clear h1 h2;go_wp2_with fail
 refine hW.out.mono ?_;rintro e w2⟨rfl,h3⟩;go_wp2;go_ret2;exact⟨rfl,h3.out⟩
theorem zy5 (s:ByteArray)(w:World)(hs:1500<s.size):Calls prog 32 #[.string s] w λe w'=>e=.returned (.tuple #[.string ⟨#[]⟩,.int .i64 1])/\w'=w:=by
 have hs2:(1500:Int)<(s.size:Int):=by omega
 go_enter func32,ntmps32;go_wp2;go_ret2;exact⟨rfl,rfl⟩
structure Tl where
 level:Int
 text:List UInt8
 line:Int
def three (x:Tl):List Value:=[.int .i64 x.level,.string (S.B x.text),.int .i64 x.line]
def zao (l:List Tl):List Value:=(l.map three).flatten
theorem zkj (l:List Tl)(x:Tl):zao (l++[x])=zao l++three x:=by simp[zao]
def zct (B:Nat)(a:Option Addr)(cp:Nat)(l:List Tl)(w:World):Prop:=w.ownsRow B 71 3 (.slice a l.length cp) l.length (zao l)
theorem zct.below {B:Nat}{a:Option Addr}{cp:Nat}{l:List Tl}{w w':World}(h:zct B a cp l w)(hb:Below w.heap.size w w'):zct B a cp l w':=
 World.ownsRow.kept h (below_grown hb) (by
  cases h:(Value.slice a l.length cp).ownBlock with
  | none=>exact .inl rfl
  | some g=>exact .inr (by simp))
def z5e (B:Nat)(own:Option Nat)(l:List Tl)(w:World)(e:Ending)(w':World):Prop:=∃a cp,e=.returned (.slice a l.length cp)/\zct B a cp l w'/\w.grownBy w' own/\∀g,(Value.slice a l.length cp).ownBlock=some g->own=some g\/w.heap.size<=g
theorem Tryz.zm5:(prog.info? 71).map (λi=>(i.zero,i.size,i.bytes))=some (some (.agg #[.int .i64 0,.string ⟨#[]⟩,.int .i64 0]),3,32):=by kernel_rfl
mutual
noncomputable def titB (z:Int):S.Blk->List Tl
 | .at_ li k n _ t _ kids=>(if k=2 then [⟨n,zcr (zen t),z+li⟩] else [])++titL (z+li) kids
noncomputable def titL (z:Int):List S.Blk->List Tl
 | []=>[]
 | b::r=>titB z b++titL z r
end
theorem zih (z:Int)(a b:List S.Blk):titL z (a++b)=titL z a++titL z b:=by
 induction a with
 | nil=>simp[titL]
 | cons p r ih=>simp only[List.cons_append,titL,ih,Qp]
theorem zzd (z:Int)(ts:List S.Blk)(k:Nat)(t:S.Blk)(h:ts[k]?=some t):titL z (ts.take (k+1))=titL z (ts.take k)++titB z t:=by
 rw[List.take_add_one,h,zih];simp[titL]
mutual
def lnB:S.Blk->Prop
 | .at_ li _ _ _ _ _ kids=>0<=li/\li<=300000/\lnL kids
def lnL:List S.Blk->Prop
 | []=>True
 | b::r=>lnB b/\lnL r
end
theorem z2w (ts:List S.Blk)(h:lnL ts)(i:Nat)(t:S.Blk)(hi:ts[i]?=some t):lnB t:=by
 induction ts generalizing i with
 | nil=>simp at hi
 | cons b r ih=>
  simp only[lnL] at h;cases i with
  | zero=>simp at hi;subst hi;exact h.1
  | succ i=>exact ih h.2 i (by simpa using hi)
theorem z2p (sub:List (List UInt8)->List S.Blk × Bool)(hs:∀x,S.tt x<=300000->lnL (sub x).1)(kind:UInt8)(Z f:Nat)(hZ:Z<=300000)(l:List UInt8)(r:List (List UInt8))(hok:(S.item l).ok=true)(ht:S.tt (l::r)<=300000):lnL (S.zau sub kind Z f (S.item l) (l::r)).1:=by
 induction f generalizing l r with
 | zero=>simp[S.zau,lnL]
 | succ f ih=>
  have hi:=S.zx4 l r hok;have hi2:=S.zdw (l::r) (S.zah (S.item l) (l::r)).length;have hg:=hs (S.zah (S.item l) (l::r)) (by omega);rw[S.zdd];obtain⟨k,hk⟩:=Qyy ((S.zah (S.item l) (l::r)).length+S.za6 ((l::r).drop (S.zah (S.item l) (l::r)).length));rw[hk];have hz:(0:Int)<=((Z-(l::r).length:Nat):Int)/\((Z-(l::r).length:Nat):Int)<=300000:=by omega
  by_cases hn:(S.zaw kind ((l::r).drop k)).ok=true
  ·rw[if_pos hn];cases hdr:(l::r).drop k with
   | nil=>rw[hdr] at hn;simp[S.zaw] at hn
   | cons l2 r2=>
    rw[hdr] at hn;have hy:=S.zf9 kind l2 r2 hn;have hsp:=S.zgf (l::r) k;rw[hdr] at hsp;have:=ih l2 r2 hy.2.2 (by omega);rw[hy.1];simp only[lnL,lnB];exact⟨⟨hz.1,hz.2,hg⟩,this⟩
  ·rw[if_neg hn];simp only[lnL,lnB];exact⟨⟨hz.1,hz.2,hg⟩,trivial⟩
theorem z0a (sub:List (List UInt8)->List S.Blk × Bool)(hs:∀x,S.tt x<=300000->lnL (sub x).1)(x:List UInt8)(r:List (List UInt8))(ht:S.tt (x::r)<=300000):lnL (S.zaf sub (x::r)).1.kids:=by
 have hlen:(x::r).length<=300000:=by unfold S.tt at ht;omega
 unfold S.zaf;dsimp only;split
 ·simp[S.zb9,S.Blk.kids,lnL]
 split
 ·simp[S.Blk.kids,lnL]
 split
 ·simp[S.Blk.kids,lnL]
 split
 ·simp[S.zbu,S.Blk.kids,lnL]
 split
 ·have h1:=S.zuz (x::r);have h2:=S.zdw (x::r) (S.zae (x::r)).length;exact hs _ (by omega)
 split
 ·rename_i h6;rw[S.zf5];exact z2p sub hs _ _ _ hlen x r h6 ht
 ·rw[(S.zus (x::r)).2];simp[lnL]
theorem z4d (z:Int)(b:S.Blk)(h0:0<=z)(h1:z<=300000)(h:lnL b.kids):lnB (b.put z):=by
 cases b;simp only[S.Blk.put,lnB];exact⟨h0,h1,h⟩
theorem zvm (sub:List (List UInt8)->List S.Blk × Bool)(hs:∀x,S.tt x<=300000->lnL (sub x).1)(Z f:Nat)(hZ:Z<=300000)(row:List (List UInt8))(ht:S.tt row<=300000):lnL (S.rowFrom sub Z f row).1:=by
 induction f generalizing row with
 | zero=>simp[S.rowFrom,lnL]
 | succ f ih=>
  cases row with
  | nil=>rw[S.zee];simp[lnL]
  | cons x r=>
   rw[S.zek _ _ _ _ (by simp)];have h1:=z0a sub hs x r ht;have h3:=S.zgf (x::r) ((S.zaf sub (x::r)).2+S.za6 ((x::r).drop (S.zaf sub (x::r)).2));have h2:=ih ((x::r).drop ((S.zaf sub (x::r)).2+S.za6 ((x::r).drop (S.zaf sub (x::r)).2))) (by omega);simp only[lnL];exact⟨z4d _ _ (by omega) (by omega) h1,h2⟩
theorem zw6 (d:Nat)(row:List (List UInt8))(ht:S.tt row<=300000):lnL (S.za2 d row).1:=by
 induction d generalizing row with
 | zero=>simp[S.za2,lnL]
 | succ d ih=>
  rw[show S.za2 (d+1) row=S.rowFrom (S.za2 d) row.length row.length (row.drop (S.za6 row)) from rfl];have h2:=S.zgf row (S.za6 row);exact zvm (S.za2 d) (λx hx=>ih x hx) _ _ (by unfold S.tt at ht;omega) _ (by omega)
theorem zct.alloc {B:Nat}{a:Option Addr}{cp:Nat}{l:List Tl}{w:World}(h:zct B a cp l w)(o:Obj):zct B a cp l (w.alloc o):=World.ownsRow.alloc h o
theorem z3a (c:List UInt8)(h:c.length<=300000):wgL (zen c)<=1000000000:=by have:=zl8 c;omega
theorem zwu (N:Nat):∀(ts:List S.Blk),pgL ts<=N->∀(B:Nat) (A:Nat->Prop) (w0:World) (ka:Option Addr) (kn kc:Nat) (a:Option Addr) (cp:Nat) (l:List Tl) (z:Int) (w:World),(∀x,A x->x<B)->Rep w0 A (.slice ka kn kc) ts->EnvP B w0->Below B w0 w->B<=w.heap.size->zct B a cp l w->fitL ts->lnL ts->0<=z->z+300000*pgL ts<=1000000000000000->(l++titL z ts).length<=1000000 ->
  Calls prog 59 #[.slice a l.length cp,.slice ka kn kc,.int .i64 z] w (z5e B (Value.slice a l.length cp).ownBlock (l++titL z ts) w):=by
 induction N using Nat.strongRecOn with
 | _ N ih=>
 intro ts hN B A w0 ka kn kc a cp l z w hA hrep jl hb0 hB hown hfit hln hz0 hz1 hl;obtain⟨i0,hi,hi0,hi1,hi2⟩:=info_parts Tryz.zm5;obtain⟨hkn,dw⟩:=zkx hrep;have hlen:=zt2 ts;have gq:=hid dw;have jk:=hid hfit;have lq:=hid hln;have mh:=hid hb0;have fq:=hid jl;have pz:=hid ih;have qh:=hid hN;have ng:=hid hl;have hownH:=hid hown;have hlts:=hid hown.lt;clear hrep dw hfit hln hb0 jl ih hl hown hN;subst hkn;go_enter func59,ntmps59;go_wp2;go_loopw [0,8,9,12] (λvl _ _ i wr=>∃(j:Nat) (a':Option Addr) (cp' n':Nat),j<=ts.length/\i=.int .i64 j/\vl=.slice a' n' cp'/\Hid (n'=(l++titL z (ts.take j)).length/\zct B a' cp' (l++titL z (ts.take j)) wr/\w.grownBy wr (Value.slice a l.length cp).ownBlock/\∀g,(Value.slice a' (l++titL z (ts.take j)).length cp').ownBlock=some g->(Value.slice a l.length cp).ownBlock=some g\/w.heap.size<=g)) (λ_ _ _ i _=>ts.length-(intOf i).toNat)
 case atStart=>
  refine⟨0,a,cp,l.length,Qt _,rfl,rfl,hid ⟨by simp[titL],?_,World.grownBy.refl _ _,?_⟩⟩
  ·simpa [titL] using hownH.out
  ·intro g hg;exact .inl (by simpa [Value.ownBlock,titL] using hg)
 case round=>
  obtain⟨j,a',cp',n',hj,rfl,rfl,hrel'⟩:=hrel;obtain⟨hn',bg,hgr,hat⟩:=hrel'.out;clear hrel';have hbw:Below B w wr:=Below.grown (Below.refl B w) hgr hB (λq hq=>(hlts.out q hq).1);by_cases hlt:j<ts.length
  ·obtain⟨t,ht⟩:∃t,ts[j]?=some t:=⟨ts[j],Qg hlt⟩;obtain⟨g,o,la,lz,lc,kv,hka,hg,jd,c0,c1,c2,c3,c4,c5,c6,c7⟩:=gq.out j t ht;obtain⟨a2,n2,cp2,rfl⟩:=jd.form;have hle3:=zcx ts (j+1);rw[zhl ts j t ht] at hle3;have hft:=zji ts jk.out j t ht;have jh:=z2w ts lq.out j t ht;have hbw0:=mh.out.trans hbw;have hgB:=hA g hg;have hcell:∀q,wr.cell? ⟨g,o+j*8+q,none⟩=w0.cell? ⟨g,o+j*8+q,none⟩:=λq=>hbw0.cell (p:=⟨g,o+j*8+q,none⟩) hgB;have hsn:l++titL z (ts.take (j+1))=(l++titL z (ts.take j))++titB z t:=by rw[zzd z ts j t ht,Qp]
   have htot:((l++titL z (ts.take j))++titB z t).length<=1000000:=by
    rw[<-hsn];have h1:=ng.out;have h2:titL z ts=titL z (ts.take (j+1))++titL z (ts.drop (j+1)):=(by rw[<-zih,List.take_append_drop]);rw[h2] at h1;simp only[Qa] at h1 ⊢;omega
   obtain⟨li,k,n,info,text,loose,kids⟩:=t;simp only[S.Blk.kind,S.Blk.line,S.Blk.n,S.Blk.info,S.Blk.text,S.Blk.loose,S.Blk.kids] at c0 c1 c2 c3 c4 c5 c6 c7 jd;simp only[fitB] at hft;simp only[lnB] at jh;simp only[titB] at htot hsn;have d0:=(hcell 0).trans c0;have d1:=(hcell 1).trans c1;have d2:=(hcell 2).trans c2;have d3:=(hcell 3).trans c3;have d4:=(hcell 4).trans c4;have d5:=(hcell 5).trans c5;have d6:=(hcell 6).trans c6;have d7:=(hcell 7).trans c7;rw[Nat.add_zero] at d0;have lg:=zjb (.at_ li k n info text loose kids);simp only[S.Blk.info,S.Blk.text,S.Blk.kids] at lg;have hpk:pgL kids<N:=by
    have:=qh.out;omega
   obtain⟨L,hL⟩:=Qyy (l++titL z (ts.take j));rw[hL] at hn' bg hat htot hsn;subst hn';have hBr:B<=wr.heap.size:=Qj hB hgr.size;have hwrap:IntKind.i64.wrap (z+li)=z+li:=by rw[IntKind.wrap_i64];omega
   obtain⟨X2,hX2⟩:=Qzz (Obj.cells #[.int .i64 k,.int .i64 li,.slice la lz lc,.int .i64 n,.string (S.B info),.string (S.B text),.bool loose,.slice a2 n2 cp2] 110);have hx2:(wr.alloc X2).heap[wr.heap.size]?=some (.cells #[.int .i64 k,.int .i64 li,.slice la lz lc,.int .i64 n,.string (S.B info),.string (S.B text),.bool loose,.slice a2 n2 cp2] 110 (0,0)):=by rw[hX2];exact za1 _ _
   have hbX:Below wr.heap.size wr (wr.alloc X2):=(Below.refl _ _).alloc (Qc _) _
   have hrest:Hid (∀(a3:Option Addr) (cp3:Nat) (L3:List Tl) (w3:World),L3++titL (z+li) kids=l++titL z (ts.take (j+1))->zct B a3 cp3 L3 w3->wr.grownBy w3 (Value.slice a' L.length cp').ownBlock->(∀g',(Value.slice a3 L3.length cp3).ownBlock=some g'->(Value.slice a' L.length cp').ownBlock=some g'\/wr.heap.size<=g') ->
     Calls prog 59 #[.slice a3 L3.length cp3,.slice a2 n2 cp2,.int .i64 (z+li)] w3 λe w4=>∃a4 dh n4,e=.returned (.slice a4 n4 dh)/\Hid (n4=(l++titL z (ts.take (j+1))).length/\zct B a4 dh (l++titL z (ts.take (j+1))) w4/\w.grownBy w4 (Value.slice a l.length cp).ownBlock/\∀g,(Value.slice a4 (l++titL z (ts.take (j+1))).length dh).ownBlock=some g->(Value.slice a l.length cp).ownBlock=some g\/w.heap.size<=g)):=hid (λa3 cp3 L3 w3 h1 h2 h3 h4=>by
    have gy:=bg.lt;have hb3:Below B w0 w3:=hbw0.trans (Below.grown (Below.refl B wr) h3 hBr (λq hq=>(gy q hq).1));have:=pz.out (pgL kids) hpk kids (Qc _) B A w0 a2 n2 cp2 a3 cp3 L3 (z+li) w3 hA jd fq.out hb3 (Qj hBr h3.size) h2 hft.2.2.2.2 jh.2.2 (by omega) (by omega) (by
     rw[h1];have h5:=ng.out;have h6:titL z ts=titL z (ts.take (j+1))++titL z (ts.drop (j+1)):=(by rw[<-zih,List.take_append_drop]);rw[h6] at h5;simp only[Qa] at h5 ⊢;omega)
    refine this.mono ?_;rintro e w4⟨a4,dh,rfl,g1,g2,g3⟩;rw[h1] at g1 g3;refine⟨a4,dh,_,rfl,hid ⟨by rw[h1],g1,zed hgr (zed h3 g2 h4) hat,λg' hg'=>?_⟩⟩;rcases g3 g' hg' with h|h
    ·rcases h4 g' h with h|h
     ·exact hat g' h
     ·exact .inr (Qj hgr.size h)
    ·exact .inr (Qj (Qj hgr.size h3.size) h))
   have jw:=hid hX2;by_cases hk:k=2
   ·subst hk;rw[if_pos rfl] at hsn htot;obtain⟨pt,hpt⟩:=Qyy (S.B (zcr (zen text)));obtain⟨tl,htl⟩:∃tl:Tl,tl=⟨n,zcr (zen text),z+li⟩:=⟨_,rfl⟩;rw[<-htl] at hsn htot;have h3:Hid (three tl=[.int .i64 n,.string pt,.int .i64 (z+li)]):=hid (by rw[htl,<-hpt];rfl);have qg:wr.heap.size<(wr.alloc X2).heap.size:=(by simp);have jq:Hid (∀w1,After (wr.alloc X2) w1->w1.heap[wr.heap.size]?=some (.cells #[.int .i64 2,.int .i64 li,.slice la lz lc,.int .i64 n,.string (S.B info),.string (S.B text),.bool loose,.slice a2 n2 cp2] 110 (0,0))):=hid (λw1 h=>(h.block _ qg).trans hx2);have x0:=za0 hx2 0 _ rfl;have x1:=za0 hx2 1 _ rfl;have x3:=za0 hx2 3 _ rfl;have x5:=za0 hx2 5 _ rfl;have ny:Hid (∀wx,After (wr.alloc X2) wx->Calls prog 80 #[.string (S.B text)] wx λe w1=>∃kf kl,e=.returned (.agg #[.pointer kf,.pointer kl])/\(w1.cell? ⟨wr.heap.size,3,none⟩=some (.int .i64 n)/\w1.cell? ⟨wr.heap.size,5,none⟩=some (.string (S.B text)))/\Hid (KRep w1 (Tag w1) kf (zen text)/\After (wr.alloc X2) w1)):=hid (λwx hx=>by
     have he:EnvP B wx:=fq.out.below (hbw0.trans ((hbX.trans (hx.mono (by simp))).mono hBr));have:=znw (S.B text) wx (by rw[S.zav];omega) he.1;rw[S.zaz] at this;refine this.mono ?_;rintro e w1⟨kf,kl,rfl,g1,g2⟩;have h4:After (wr.alloc X2) w1:=Below.trans hx (g2.mono hx.size);exact⟨kf,kl,rfl,⟨za0 (jq.out w1 h4) 3 _ rfl,za0 (jq.out w1 h4) 5 _ rfl⟩,hid ⟨g1,h4⟩⟩)
    have pq:Hid (∀kf kl w1,KRep w1 (Tag w1) kf (zen text)/\After (wr.alloc X2) w1->Calls prog 79 #[.agg #[.pointer kf,.pointer kl]] w1 λe w2=>e=.returned (.string pt)/\(w2.cell? ⟨wr.heap.size,3,none⟩=some (.int .i64 n)/\w2.cell? ⟨wr.heap.size,5,none⟩=some (.string (S.B text)))/\wr.heap.size+1<=w2.heap.size/\Hid (After (wr.alloc X2) w2)):=hid (λkf kl w1 h=>by
     refine(zlg (zen text) (Tag w1) kf kl w1 (z3a text hft.2.2.2.1) h.1).mono ?_;rintro e w2⟨rfl,g2⟩;have h4:After (wr.alloc X2) w2:=Below.trans h.2 (g2.mono h.2.size);exact⟨by rw[hpt],⟨za0 (jq.out w2 h4) 3 _ rfl,za0 (jq.out w2 h4) 5 _ rfl⟩,by have:=h4.size;simpa using this,hid h4⟩)
    have qj:L.length+1<=1000000:=(by simp only[Qa,List.length_singleton] at htot;omega);have dx:Hid (∀w2 ob,After (wr.alloc X2) w2->(w2.alloc ob).ownsRow B 71 3 (.slice a' L.length cp') L.length (zao L)):=hid (λw2 ob h=>((bg.alloc X2).below h).alloc ob);have hnew:Hid (∀(w2:World) j u,(three tl)[j]?=some u->(w2.alloc (.cells #[.int .i64 n,.string pt,.int .i64 (z+li)] 71)).cell? ((⟨w2.heap.size,0,none⟩:Addr).add j)=some u):=hid (λw2 j u hj=>World.news_of_block (za1 _ _) j u (by rw[h3.out] at hj;exact hj));have hone:Hid (∀u∈three tl,u.oneCell'=true):=hid (by
     intro u hu;rw[h3.out] at hu;simp at hu;rcases hu with rfl|rfl|rfl<;>rfl)
    have gy:=hid bg.lt;have hmid:Hid (∀w2 ob w3 g cap1,After (wr.alloc X2) w2->(w2.alloc ob).grownBy w3 (Value.slice a' L.length cp').ownBlock->w3.ownsRow B 71 3 (.slice (some ⟨g,0,none⟩) (L.length+1) cap1) (L.length+1) (zao L++three tl)->((Value.slice a' L.length cp').ownBlock=some g\/g=w2.heap.size+1) ->
      (w3.cell? ⟨wr.heap.size,3,none⟩=some (.int .i64 n)/\w3.cell? ⟨wr.heap.size,5,none⟩=some (.string (S.B text)))/\Hid (w3.heap[wr.heap.size]?=some (.cells #[.int .i64 2,.int .i64 li,.slice la lz lc,.int .i64 n,.string (S.B info),.string (S.B text),.bool loose,.slice a2 n2 cp2] 110 (0,0))/\zct B (some ⟨g,0,none⟩) cap1 (L++[tl]) w3/\wr.grownBy w3 (Value.slice a' L.length cp').ownBlock/\∀g',(Value.slice (some ⟨g,0,none⟩) (L++[tl]).length cap1).ownBlock=some g'->(Value.slice a' L.length cp').ownBlock=some g'\/wr.heap.size<=g')):=hid (λw2 ob w3 g cap1 h1 h2 h4 h5=>by
     have hsz:=h1.size;have hs2:(w2.alloc ob).heap.size=w2.heap.size+1:=(by simp);have hk3:w3.heap[wr.heap.size]?=_:=(h2.block wr.heap.size (by rw[hs2];omega) (λe=>by have:=(gy.out _ e.symm).2;omega)).trans ((Below.heap_alloc _ _ _ (by omega)).trans (jq.out w2 h1));refine⟨⟨za0 hk3 3 _ rfl,za0 hk3 5 _ rfl⟩,hid ⟨hk3,by unfold zct;rw[zkj,Qa];exact h4,?_,?_⟩⟩
     ·exact zed (zed (zmx (hbX.trans (h1.mono (by simp))) _) (World.grownBy_alloc _ _ _) (λg h=>.inl h)) h2 (λg h=>.inl h)
     ·intro g' hg';have:g=g':=(by simpa [Value.ownBlock] using hg');subst this;rcases h5 with h|h
      ·exact .inl h
      ·exact .inr (by omega))
    clear c0 c1 c2 c3 c4 c5 c6 c7 hcell hbw0 jd hft hX2 hpk hx2 bg hgr hat htot hbX hL hbw hpt htl;have kr:=hid hsn;clear hsn;subst hka;go_upto_region 6 with fail
    rw[<-jw.out];go_region_held3 (λw'=>w'.cell? ⟨wr.heap.size,3,none⟩=some (.int .i64 n)/\w'.cell? ⟨wr.heap.size,5,none⟩=some (.string (S.B text)))
     (first|exact⟨x3,x5⟩|exact⟨y3,y5⟩|exact⟨v3,v5⟩|exact⟨z3,z5⟩|exact⟨zmn z3 hz2 _,zmn z5 hz2 _⟩)
     (first
      | (go_at_call 80;refine(ny.out _ (by first|exact zhn|exact Below.refl _ _)).mono ?_;rintro e w1⟨kf,kl,rfl,⟨y3,y5⟩,hK1⟩)
      | (go_at_call 79;refine(pq.out _ _ _ hK1.out).mono ?_;rintro e w2⟨rfl,⟨z3,z5⟩,hz2,hA2⟩)
      | (refine step_append_lies _ (by rfl) _ _ 65 (by rfl) B 71 i0 (.agg #[.int .i64 0,.string ⟨#[]⟩,.int .i64 0]) 3 32 underlying65 hi hi0 hi1 hi2 (by rfl) (by omega) (.slice a' L.length cp') L.length (zao L) (by rfl) (dx.out _ _ hA2.out) ⟨w2.heap.size,0,none⟩ 1 1 (three tl) (by rfl) (by rfl) (hnew.out _) hone.out (by omega) (by unfold maxLen;omega) (by omega) (by simp;omega) (w2.heap.size+1) (by simp) ?_;intro g3 jy w3 hown3 hgrow3 jm jg;obtain⟨⟨v3,v5⟩,kg⟩:=hmid.out w2 _ w3 g3 jy hA2.out hgrow3 hown3 jm))
    all_goals
     have hx3:=kg.out.1;have v7:=za0 hx3 7 _ rfl;have hC:=hrest.out (some ⟨g3,0,none⟩) jy (L++[tl]) w3 (by rw[kr.out,Qp]) kg.out.2.1 kg.out.2.2.1 kg.out.2.2.2;rw[show (L++[tl]).length=L.length+1 by simp] at hC;have hCH:=hid hC;clear hC hx3 hown3 hgrow3 jm jg hrest ny pq hmid dx hnew hone;go_wp2_with (fail);refine hCH.out.mono ?_;rintro e w4⟨a4,dh,n4,rfl,mq⟩;go_wp2;go_roundw
     case rel=>exact⟨j+1,a4,dh,n4,by omega,by go_num,rfl,mq⟩
     case measure=>simp[intOf];omega
   ·rw[if_neg hk,List.nil_append] at hsn;have hkb:(k == 2)=false:=(by rw[Qe];exact hk);have x0:=za0 hx2 0 _ rfl;have hC:=hid (hrest.out a' cp' L (wr.alloc X2) hsn.symm (bg.alloc X2) (zmx hbX _) (λg' h=>.inl h));clear c0 c1 c2 c3 c4 c5 c6 c7 hcell hbw0 jd hft hX2 hpk hx2 bg hgr hat hsn htot hbX hrest hk hL hbw x0;subst hka;go_wp2_with (fail);rw[<-jw.out];refine hC.out.mono ?_;rintro e w4⟨a4,dh,n4,rfl,mq⟩;go_wp2;go_roundw
    case rel=>exact⟨j+1,a4,dh,n4,by omega,by go_num,rfl,mq⟩
    case measure=>simp[intOf];omega
  ·have qb:j=ts.length:=by omega
   subst qb;rw[Qbl] at hn' bg hat;have hfin:Hid (z5e B (Value.slice a l.length cp).ownBlock (l++titL z ts) w (.returned (.slice a' n' cp')) wr):=hid ⟨a',cp',by rw[hn'],bg,hgr,hat⟩;clear hn' bg hgr hat hbw;go_wp2;go_ret;exact hfin.out
noncomputable def zcy (l:List UInt8):List Tl:=titL 0 (S.za2 (l.length+1) (S.lines l)).1
theorem zvi (s:ByteArray)(w:World)(hs:s.size<=1500)(henv:EnvP w.heap.size w)(hcnt:(zcy s.data.toList).length<=1000000):Calls prog 39 #[.string s] w λe w'=>∃B a cp,e=.returned (.tuple #[.slice a (zcy s.data.toList).length cp,.int .i64 0])/\w.heap.size<=B/\zct B a cp (zcy s.data.toList) w'/\Below w.heap.size w w':=by
 have hR:=hid (zue zrc s w (by omega) henv.1);have hlt:=S.zhe s.data.toList;rw[S.lda] at hlt;have hwl:=zfd (s.size+1) (S.lines s.data.toList) (by omega);have hln:=zw6 (s.size+1) (S.lines s.data.toList) (by omega);obtain⟨R,hRR⟩:=Qzz (zcy s.data.toList);rw[<-hRR] at hcnt ⊢;have bg:titL 0 (S.za2 (s.size+1) (S.lines s.data.toList)).1=R:=by rw[hRR,zcy,S.lda]
 have dh:Hid (∀ka kn kc w1,Below w.heap.size w w1->Rep w1 (λx=>w.heap.size<=x/\x<w1.heap.size) (.slice ka kn kc) (S.za2 (s.size+1) (S.lines s.data.toList)).1->Calls prog 59 #[.slice none 0 0,.slice ka kn kc,.int .i64 0] w1 λe w'=>∃a cp,e=.returned (.slice a R.length cp)/\Hid (zct w1.heap.size a cp R w'/\w.heap.size<=w1.heap.size/\Below w.heap.size w w')):=hid (λka kn kc w1 h1 h2=>by
  have:=zwu (pgL (S.za2 (s.size+1) (S.lines s.data.toList)).1) _ (Qc _) w1.heap.size _ w1 ka kn kc none 0 [] 0 w1 (λx hx=>hx.2) h2 ((henv.below h1).mono h1.size) (Below.refl _ _) (Qc _) (World.ownsRow_nil _ _ _ _) hwl.1 hln (by omega) (by have:=hwl.2.1;omega) (by rw[List.nil_append,bg];exact hcnt);rw[List.nil_append,bg] at this;refine this.mono ?_;rintro e w'⟨a,cp,rfl,g1,g2,_⟩;have hb3:Below w1.heap.size w1 w':=Below.grown (Below.refl _ _) g2 (Qc _) (λg hg=>by simp[Value.ownBlock] at hg);exact⟨a,cp,rfl,hid ⟨g1,h1.size,h1.trans (hb3.mono h1.size)⟩⟩)
 have hs2:¬(1500:Int)<(s.size:Int):=by omega
 clear hwl hlt hRR henv hln bg hcnt;go_enter func39,ntmps39;go_wp2_with fail
 refine hR.out.mono ?_;rintro e w1⟨v,rfl,h1,h2⟩;obtain⟨ka,kn,kc,rfl⟩:=h1.form;have hW:=hid (dh.out ka kn kc w1 h2 h1);clear h1 h2;go_wp2_with fail
 refine hW.out.mono ?_;rintro e w2⟨a,cp,rfl,h3⟩;go_wp2;go_ret2;exact⟨w1.heap.size,a,cp,rfl,h3.out.2.1,h3.out.1,h3.out.2.2⟩
end Go.Proofs.YtlojgpkajkedeaaGreatDoor
