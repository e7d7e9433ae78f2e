import Derived.Test.YtlojgpkajkedeaaGreatDoorNC2
import Derived.Test.YtlojgpkajkedeaaGreatDoorNE24
import Derived.Test.YtlojgpkajkedeaaGreatDoorNTD
import Derived.Test.YtlojgpkajkedeaaGreatDoorNTF
import Derived.Test.YtlojgpkajkedeaaGreatDoorNRQ
import Derived.Maps.AppendAt
import Derived.Deep.AppendLies
import Derived.Laws.AppendOwnNone
set_option maxHeartbeats 16000000
set_option maxRecDepth 100000
namespace Go.Proofs.YtlojgpkajkedeaaGreatDoor
open Go.RowKit Go.Proofs.Tryz
theorem zu4 (d:Nat):ROK (λs ns=>WTo s [] 0 ns) d:=z3m _ zrr (λd h=>zyv _ d h) d
mutual
theorem MatB.mono {C E:List UInt8->List Rn->Prop} (h:∀s ns,C s ns->E s ns) {z:Int} {b:S.Blk} {n:Rn} (hm:MatB C z b n):MatB E z b n:=by
 cases b with
 | at_ li k m i t lo ks=>
  cases n with
  | nd k' m' i' t' l' ks'=>
   simp only[MatB] at hm ⊢;refine⟨hm.1,hm.2.1,hm.2.2.1,hm.2.2.2.1,hm.2.2.2.2.1,?_⟩;have h6:=hm.2.2.2.2.2;by_cases hk:k=1\/k=2
   ·rw[if_pos hk] at h6 ⊢;exact h _ _ h6
   ·rw[if_neg hk] at h6 ⊢;exact MatL.mono h h6
theorem MatL.mono {C E:List UInt8->List Rn->Prop} (h:∀s ns,C s ns->E s ns) {z:Int} {bs:List S.Blk} {ns:List Rn} (hm:MatL C z bs ns):MatL E z bs ns:=by
 cases bs with
 | nil=>
  cases ns with
  | nil=>trivial
  | cons n s=>simp only[MatL] at hm
 | cons b r=>
  cases ns with
  | nil=>simp only[MatL] at hm
  | cons n s=>
   simp only[MatL] at hm ⊢;exact⟨MatB.mono h hm.1,MatL.mono h hm.2⟩
end
mutual
def kdP:Pt->Prop
 | .mk k _ _ kids _ _ _=>8<=k/\k<=15/\(k<=11->kids=[])/\kdPs kids
def kdPs:List Pt->Prop
 | []=>True
 | p::r=>kdP p/\kdPs r
end
theorem ze1 (p:Pt)(r:List Pt):kdPs (p::r)↔kdP p/\kdPs r:=by simp only[kdPs]
theorem zf7:kdPs []:=by simp only[kdPs]
theorem zbw (a b:List Pt):kdPs (a++b)↔kdPs a/\kdPs b:=by
 induction a with
 | nil=>simp[kdPs]
 | cons p r ih=>simp only[List.cons_append,ze1,ih,and_assoc]
theorem zhj (p:Pt):kdPs [p]↔kdP p:=by simp[kdPs]
theorem zha (p:Pt)(t:List UInt8):kdP (p.za4 t)↔kdP p:=by
 cases p with
 | mk k i t0 kids z a b=>show kdP (.mk k i t kids z a b)↔_;simp only[kdP]
theorem zy1 (f:Nat)(l:List Pt)(h:kdPs l):kdPs (zdy f l):=by
 induction f generalizing l with
 | zero=>exact zf7
 | succ f ih=>
  cases l with
  | nil=>exact zf7
  | cons p r=>
   rw[ze1] at h;simp only[zdy];split
   ·split
    ·exact ih r h.2
    ·cases r with
     | nil=>exact(zhj p).2 h.1
     | cons q r'=>
      have h2:=h.2;rw[ze1] at h2;dsimp only;split
      ·exact ih _ ((ze1 _ _).2 ⟨(zha _ _).2 h2.1,h2.2⟩)
      ·exact(ze1 _ _).2 ⟨h.1,ih _ h.2⟩
   ·exact(ze1 _ _).2 ⟨h.1,ih r h.2⟩
theorem z1b (f:Nat)(L:List Pt)(s:Pt)(h:kdPs (L++[s])):kdPs ((zci f L s).1++[(zci f L s).2]):=by
 induction f generalizing L s with
 | zero=>exact h
 | succ f ih=>
  simp only[zci];split
  ·cases ho:zem s L with
   | none=>exact h
   | some v=>
    obtain⟨l1,x,m⟩:=v;dsimp only;refine ih _ _ ?_;obtain⟨h1,h2⟩:=zjh s L l1 x m ho;subst h1;simp only[zbw,ze1] at h;simp only[zbw,ze1];refine⟨⟨h.1.1,(zha _ _).2 h.1.2.1,?_,zf7⟩,(zha _ _).2 h.2.1,zf7⟩;have hj:kdPs (zfv m):=zy1 _ _ h.1.2.2;unfold zhs;simp only[kdP];refine⟨by split<;>decide,by split<;>decide,?_,hj⟩;intro e;exfalso;revert e;split<;>decide
  ·exact h
theorem z1l (L l:List Pt)(h:kdPs (L++l)):kdPs (zj0 L l):=by
 induction l generalizing L with
 | nil=>simpa [zj0] using h
 | cons s r ih=>
  simp only[zj0];refine ih _ ?_;rw[zbw,ze1] at h;rw[zbw];exact⟨z1b _ _ _ ((zbw _ _).2 ⟨h.1,(zhj s).2 h.2.1⟩),h.2.2⟩
theorem zrd (l:List Pt)(h:kdPs l):kdPs (zdi l):=by
 unfold zdi zfv;exact zy1 _ _ (z1l [] l h)
theorem zgi (k:Int)(i t:List UInt8)(z:Nat)(a b:Bool)(h1:8<=k)(h2:k<=15):kdP (.mk k i t [] z a b):=by
 simp only[kdP];exact⟨h1,h2,λ_=>trivial,zf7⟩
theorem ztm (t:List UInt8):kdP (zbk t):=zgi _ _ _ _ _ _ (by decide) (by decide)
theorem zt9 (ct:ByteArray)(f k:Nat):kdPs (zd1 ct f k):=by
 unfold zd1;split
 ·exact(zhj _).2 (ztm _)
 ·exact zf7
def FitK (s:St):Prop:=kdPs s.ps
theorem FitK.skip {s:St}(h:FitK s)(ct:ByteArray)(n:Nat):FitK (s.skip ct n):=(zbw _ _).2 ⟨h,zt9 ct s.f s.k⟩
theorem FitK.text {s:St}(h:FitK s)(n:Nat):FitK (s.text n):=h
theorem FitK.lay {s:St}(h:FitK s)(ct:ByteArray)(p:Pt)(n:Nat)(hp:kdP p):FitK (s.lay ct p n):=(zbw _ _).2 ⟨(zbw _ _).2 ⟨h,zt9 ct s.f s.k⟩,(zhj p).2 hp⟩
theorem FitK.open {s:St}(h:FitK s)(ct:ByteArray)(t:List UInt8)(im:Bool):FitK (s.open ct t im):=FitK.lay h ct (zbk t) t.length (ztm t)
theorem zyl (l:List Pt)(j:Nat)(h:kdPs l):kdPs (l.take j):=by
 rw[<-List.take_append_drop j l,zbw] at h;exact h.1
theorem zxk (l:List Pt)(j:Nat)(h:kdPs l):kdPs (l.drop j):=by
 rw[<-List.take_append_drop j l,zbw] at h;exact h.2
theorem FitK.bracket {s:St}(h:FitK s)(ct:ByteArray):FitK (s.bracket ct).2:=by
 unfold St.bracket;split
 ·unfold St.close;split
  ·exact h
  ·rename_i o _;split
   ·refine(zbw _ _).2 ⟨zyl _ _ h,(zhj _).2 ?_⟩;have h5:=zrd (s.ps.drop (o.j+1)++zd1 ct s.f s.k) ((zbw _ _).2 ⟨zxk _ _ h,zt9 ct s.f s.k⟩);unfold zib;simp only[kdP];refine⟨by split<;>decide,by split<;>decide,?_,h5⟩;intro e;exfalso;revert e;split<;>decide
   ·exact h
 ·split
  ·exact h.open ct _ _
  ·split
   ·exact h.open ct _ _
   ·exact h
theorem FitK.step {s:St}(h:FitK s)(ct:ByteArray)(hk:s.k<ct.size):FitK (step ct s):=by
 rw[zep ct s hk];unfold zje;split
 ·split
  ·exact h.lay ct _ _ (zgi _ _ _ _ _ _ (by decide) (by decide))
  ·split
   ·exact(h.skip ct 1).text 1
   ·exact h.text 1
 ·split
  ·split
   ·exact h.lay ct _ _ (zgi _ _ _ _ _ _ (by decide) (by decide))
   ·exact h.text _
  ·split
   ·split
    ·split
     ·exact h.lay ct _ _ (zgi _ _ _ _ _ _ (by decide) (by decide))
     ·exact h.lay ct _ _ (zgi _ _ _ _ _ _ (by decide) (by decide))
    ·exact h.text _
   ·split
    ·exact h.lay ct _ _ (zgi _ _ _ _ _ _ (by decide) (by decide))
    ·split
     ·split
      ·refine h.lay ct _ _ ?_;unfold zhu;simp only[kdP];exact⟨by decide,by decide,λe=>absurd e (by decide),(zhj _).2 (ztm _)⟩
      ·exact h.text 1
     ·split
      ·exact h.lay ct _ _ (zgi _ _ _ _ _ _ (by decide) (by decide))
      ·split
       ·split
        ·exact h.bracket ct
        ·exact(h.bracket ct).text 1
       ·exact h.text 1
theorem zxz (ct:ByteArray)(s:St)(r:List Pt)(h:Ends ct s r)(hf:FitK s):kdPs r:=by
 induction h with
 | done s h=>exact hf.skip ct 0
 | go s r h hr ih=>exact ih (hf.step ct h)
theorem zob (c:List UInt8):kdPs (zen c):=by
 by_cases hx:∃r,Ends (S.B c) zh7 r
 ·obtain⟨r,h⟩:=hx;rw[zky c r h];exact zrd r (zxz _ _ _ h zf7)
 ·unfold zen;rw[dif_neg hx];exact zf7
theorem zsi (w:World):Calls prog 47 #[.slice none 0 0] w λe w'=>e=.returned (.tuple #[.slice none 0 0,.bool false])/\w=w':=by
 go_enter func47,ntmps47;go_wp2;refine wp_loop_rounds 1 ?_;rw[rounds_succ];go_wp2;go_ret2;exact⟨rfl,rfl⟩
theorem z5n (ss:List ByteArray):tot ss=S.tt (dat ss):=by
 rw[zyp];generalize dat ss=r;induction r with
 | nil=>rfl
 | cons x r ih=>rw[Qs,List.sum_cons,S.zcs,ih]
theorem zug (s:ByteArray)(w:World)(hs:s.size<=1500)(os:List Ln)(a:Option Addr)(cp B:Nat)(hd:datL os=S.lines s.data.toList)(hn:Num 0 os)(hown:w.ownsRow B 116 2 (.slice a os.length cp) os.length (zc1 os)):Calls prog 47 #[.slice a os.length cp] w λe w'=>∃(ka:Option Addr) (kn kc:Nat) (g:Bool) (ns:List Rn),e=.returned (.tuple #[.slice ka kn kc,.bool g])/\Hid (RepN w' (λx=>x<w'.heap.size) (.slice ka kn kc) ns/\MatL (λs ns=>WTo s [] 0 ns) 0 (S.za2 (s.size+1) (S.lines s.data.toList)).1 ns/\Below w.heap.size w w'):=by
 have ht:tot (zcl os)<=1000000:=by
  rw[z5n];show S.tt (datL os)<=_;rw[hd];have:=S.zhe s.data.toList;rw[S.lda] at this;omega
 rcases hown.2 with ⟨h1,h2⟩|⟨g,cap,cur,h1,h2,h3,h4,h5,h6,h7⟩
 ·have h0:os=[]:=Qbg.1 h2;subst h0;injection h1 with e1 e2 e3
  subst e1 e3;have hl:S.lines s.data.toList=[]:=by rw[<-hd];rfl
  refine(zsi w).mono ?_;rintro e w'⟨rfl,rfl⟩;refine⟨none,0,0,false,[],rfl,hid ⟨.nil,?_,Below.refl _ _⟩⟩;rw[hl];exact trivial
 ·injection h1 with e1 e2 e3
  subst e1 e3;have hg:g<w.heap.size:=(Qq.1 h3).1;have hrow:RowL w g 0 os:=by
   by_cases hpos:0<os.length
   ·obtain⟨g',he,_,_,_,hrow⟩:=zrx hown ht hpos;cases he;exact hrow
   ·have h0:os=[]:=Qbg.1 (by omega);subst h0;exact⟨λi p h=>by simp at h,ht⟩
  have hb:bytes (datL os)<s.size+1:=by
   rw[hd];have:=S.zmy s.data.toList;rw[S.lda] at this;omega
  refine(zu4 (s.size+1) g 0 cp os 0 w h4 hg hrow hn hb).mono ?_;rintro e w'⟨v,ns,rfl,hrep,hM,hbl⟩;obtain⟨ka,kn,kc,rfl⟩:=hrep.form;exact⟨ka,kn,kc,_,ns,rfl,hid ⟨hrep.move (λx hx=>hx.2) (λ_ _=>rfl),by rw[<-hd];exact hM.out,hbl⟩⟩
theorem zhf (z:Int)(w:World):Calls prog 19 #[.int .i64 z] w λe w'=>e=.returned (.int .i64 z)/\w=w':=by
 go_enter func19,ntmps19;go_wp2;go_ret;exact⟨rfl,rfl⟩
end Go.Proofs.YtlojgpkajkedeaaGreatDoor
