import Derived.Test.YtlojgpkajkedeaaGreatDoorNE24
import Derived.Test.YtlojgpkajkedeaaGreatDoorNPU
import Derived.Test.YtlojgpkajkedeaaGreatDoorNVB
import Derived.Test.YtlojgpkajkedeaaGreatDoorNTQ
import Derived.Test.YtlojgpkajkedeaaGreatDoorNPI
set_option maxHeartbeats 16000000
set_option maxRecDepth 100000
namespace Go.Proofs.YtlojgpkajkedeaaGreatDoor
open Go.RowKit Go.Proofs.Tryz
mutual
def ofPt:Pt->Tr
 | .mk k i t kids _ _ _=>.mk k 0 (S.B i) (S.B t) (z4h kids)
def z4h:List Pt->List Tr
 | []=>[]
 | p::r=>ofPt p::z4h r
end
mutual
noncomputable def z5v:S.Blk->Tr
 | .at_ _ k n info text loose kids=>.mk k n (S.B info) (textOf k (S.B text) loose) ((if k=1\/k=2 then z4h (zen text) else [])++z1o kids)
noncomputable def z1o:List S.Blk->List Tr
 | []=>[]
 | b::r=>z5v b::z1o r
end
mutual
def okB:S.Blk->Prop
 | .at_ _ k n info _ _ kids=>1<=k/\k<=6/\(k<=4->kids=[])/\(k=2->0<=n)/\-1<=n/\n<=300000000/\(k=3->info.head?≠some 32)/\(k<=5->okBL kids)/\(k=6->okIL kids)
def okBL:List S.Blk->Prop
 | []=>True
 | b::r=>okB b/\okBL r
def okIL:List S.Blk->Prop
 | []=>True
 | b::r=>okI b/\okIL r
def okI:S.Blk->Prop
 | .at_ _ k n _ _ _ kids=>k=7/\n=0/\okBL kids
end
theorem zxo (c:UInt8)(l:List UInt8):S.word (c::l)=if c=32 then [] else c::S.word l:=by
 unfold S.word Lib.cut;have hg:=Lib.index_ge l [32];by_cases h:c=32
 ·subst h;have e:Lib.index (32::l) [32]=0:=by unfold Lib.index;rw[if_pos (by simp)]
  rw[e,if_pos rfl];simp
 ·rw[if_neg h];have e:Lib.index (c::l) [32]=if Lib.index l [32] == -1 then -1 else Lib.index l [32]+1:=by
   conv=>lhs;unfold Lib.index
   rw[if_neg (by simp;exact λe=>h e.symm)]
  rw[e];by_cases h2:Lib.index l [32] = -1
  ·rw[h2];simp
  ·have h3:(Lib.index l [32] == -1)=false:=by rw[Qe];exact h2
   rw[h3];simp only[Bool.false_eq_true,if_false];rw[if_pos (by omega),if_pos (by omega)];have h4:(Lib.index l [32]+1).toNat=(Lib.index l [32]).toNat+1:=by omega
   simp only[h4,Qz]
theorem z2f (l:List UInt8):S.word l=l.takeWhile (λc=>c != 32):=by
 induction l with
 | nil=>rfl
 | cons c l ih=>
  rw[zxo,List.takeWhile_cons,ih];by_cases h:c=32
  ·subst h;simp
  ·rw[if_neg h];simp[h]
theorem zua (n:Int)(h:0<=n):Lib.itoa n=Lib.decDigits n.toNat:=by unfold Lib.itoa;rw[if_neg (by omega)]
theorem z3x (sub:List (List UInt8)->List S.Blk × Bool)(hs:∀x,okBL (sub x).1)(kind:UInt8)(Z f:Nat)(m:S.Mark)(row:List (List UInt8)):okIL (S.zau sub kind Z f m row).1:=by
 induction f generalizing m row with
 | zero=>simp[S.zau,okIL]
 | succ f ih=>
  rw[S.zdd];split
  ·simp only[okIL,okI];exact⟨⟨trivial,trivial,hs _⟩,ih _ _⟩
  ·simp only[okIL,okI];exact⟨⟨trivial,trivial,hs _⟩,trivial⟩
theorem zvy (l:List UInt8):(l.dropWhile (· == 32)).head?≠some 32:=by
 induction l with
 | nil=>simp
 | cons c l ih=>
  rw[List.dropWhile_cons];split
  ·exact ih
  ·rename_i h;simpa using h
theorem zve (l:List UInt8):(S.fence l).info.head?≠some 32:=by
 unfold S.fence;split
 ·simp
 ·split
  ·exact zvy _
  ·simp
theorem z0z (sub:List (List UInt8)->List S.Blk × Bool)(hs:∀x,okBL (sub x).1)(x:List UInt8)(r:List (List UInt8)):okB (S.zaf sub (x::r)).1:=by
 have hpar:okB (S.za8 (x::r)).1:=by
  unfold S.za8;dsimp only;split
  ·simp[okB,okBL]
  ·rename_i l _;have:=S.zkf l;split
   ·simp[okB,okBL];omega
   ·simp[okB,okBL]
 unfold S.zaf;dsimp only;split
 ·simp[S.zb9,okB,okBL]
 split
 ·simp[okB,okBL]
 split
 ·have:=S.ziw x;simp[okB,okBL];omega
 split
 ·have:=zve x;simp[S.zbu,okB,okBL,this]
 split
 ·have:=hs (S.zae (x::r));simp[okB,this]
 split
 ·have h1:=z3x sub hs (S.item x).kind (x::r).length (x::r).length (S.item x) (x::r);have h2:=S.zlm x;rw[S.zf5];simp only[okB];exact⟨by decide,by decide,λe=>absurd e (by decide),λe=>absurd e (by decide),h2.1,h2.2,λe=>absurd e (by decide),λe=>absurd e (by decide),λ_=>h1⟩
 ·exact hpar
theorem z2x (z:Int)(b:S.Blk):okB (b.put z)↔okB b:=by cases b;simp only[S.Blk.put,okB]
theorem zvr (sub:List (List UInt8)->List S.Blk × Bool)(hs:∀x,okBL (sub x).1)(Z f:Nat)(row:List (List UInt8)):okBL (S.rowFrom sub Z f row).1:=by
 induction f generalizing row with
 | zero=>simp[S.rowFrom,okBL]
 | succ f ih=>
  cases row with
  | nil=>rw[S.zee];simp[okBL]
  | cons x r=>
   rw[S.zek _ _ _ _ (by simp)];simp only[okBL];exact⟨(z2x _ _).2 (z0z sub hs x r),ih _⟩
theorem zjq (d:Nat)(row:List (List UInt8)):okBL (S.za2 d row).1:=by
 induction d generalizing row with
 | zero=>simp[S.za2,okBL]
 | succ d ih=>
  rw[show S.za2 (d+1) row=S.rowFrom (S.za2 d) row.length row.length (row.drop (S.za6 row)) from rfl];exact zvr (S.za2 d) (λx=>ih x) _ _ _
mutual
theorem z4i:∀p:Pt,rPl (toRn p)=ptPl p
 | .mk k i t kids _ _ _=>by
  simp only[toRn,rPl,ptPl];rw[zl4 kids]
theorem zl4:∀l:List Pt,rPls (zda l)=zcr l
 | []=>by simp only[zda,rPls,zcr]
 | p::r=>by
  simp only[zda,rPls,zcr];rw[z4i p,zl4 r]
end
mutual
theorem z4k:∀p:Pt,byR (toRn p)=wgP p
 | .mk k i t kids _ _ _=>by
  simp only[toRn,byR];rw[zof kids];rfl
theorem zof:∀l:List Pt,byRs (zda l)=wgL l
 | []=>rfl
 | p::r=>by
  simp only[zda,byRs];rw[z4k p,zof r,zbs]
end
mutual
theorem z2v:∀p:Pt,kdP p->okR (toRn p)
 | .mk k i t kids _ _ _=>by
  intro h;simp only[kdP] at h;simp only[toRn,okR];exact⟨by omega,by omega,λe=>by omega,by omega,zog kids h.2.2.2⟩
theorem zog:∀l:List Pt,kdPs l->okRs (zda l)
 | []=>λ_=>by simp only[zda,okRs]
 | p::r=>by
  intro h;simp only[kdPs] at h;simp only[zda,okRs];exact⟨z2v p h.1,zog r h.2⟩
end
mutual
theorem z2h (f:Bool):∀p:Pt,kdP p->wrR f (toRn p)=ptHt p
 | .mk k i t kids _ _ _=>by
  intro h;simp only[kdP] at h;have hf:tiK k t f=false:=by
   have h6:¬k=6:=by omega
   have h7:¬k=7:=by omega
   simp[tiK,h6,h7]
  have ih:=zoq false kids h.2.2.2;simp only[toRn,wrR,ptHt];rw[hf,ih,zl4];have hk:k=8\/k=9\/k=10\/k=11\/k=12\/k=13\/k=14\/k=15:=by omega
  rcases hk with rfl|rfl|rfl|rfl|rfl|rfl|rfl|rfl<;>simp[wrK]
theorem zoq (f:Bool):∀l:List Pt,kdPs l->wrRs f (zda l)=zdn l
 | []=>λ_=>by simp only[zda,wrRs,zdn]
 | p::r=>by
  intro h;simp only[kdPs] at h;simp only[zda,wrRs,zdn];rw[z2h f p h.1,zoq f r h.2]
end
theorem zv6 (f:Bool)(t:List UInt8):wrRs f (zda (zen t))=zbl t:=zoq f _ (zob t)
theorem zx0 (i:List UInt8)(h:i.head?≠some 32):zg0 i=[]↔i=[]:=by
 unfold zg0;cases i with
 | nil=>simp
 | cons c r=>
  have hc:c≠32:=λe=>h (by rw[e];rfl);simp[hc]
mutual
theorem z3q:∀(b:S.Blk) (f:Bool) (z:Int) (n:Rn),MatB CT z b n->okB b->wrR f n=zkp zbl f b
 | .at_ li k m i t lo ks=>by
  intro f z n h ho;cases n with
  | nd k' m' i' t' l' ks'=>
   simp only[MatB] at h;simp only[okB] at ho;obtain⟨rfl,rfl,rfl,rfl,_,h⟩:=h;obtain⟨h1,h2,h3,h4,h5,h6,h7,h8,h9⟩:=ho;have hk:k'=1\/k'=2\/k'=3\/k'=4\/k'=5\/k'=6:=by omega
   simp only[wrR,zkp];rcases hk with rfl|rfl|rfl|rfl|rfl|rfl
   ·rw[if_pos (.inl rfl)] at h;rw[h,zv6];simp[wrK]
   ·rw[if_pos (.inr rfl)] at h;rw[h,zv6];simp[wrK,dgB,zua m' (h4 rfl)]
   ·rw[z2f];have e:zc4 3 t lo=t:=rfl;rw[e];have hw:=zx0 i' (h7 rfl);by_cases hi:i'=[]
    ·subst hi;simp[wrK,zg0]
    ·have hn:¬zg0 i'=[]:=λx=>hi (hw.1 x);have hx:i'.takeWhile (λc=>c != 32)=zg0 i':=rfl;simp only[wrK];rw[if_neg (by decide),if_neg (by decide),if_pos (by decide),if_neg hn,if_neg (by decide),if_neg (by decide),if_pos (by decide),if_neg hi,hx];simp
   ·simp[wrK]
   ·rw[if_neg (by decide)] at h;have e:tiK 5 (zc4 5 t lo) f=false:=(by simp[tiK]);rw[e,zp0 ks false _ ks' h (h8 (by decide))];simp[wrK]
   ·rw[if_neg (by decide)] at h;have e:tiK 6 (zc4 6 t lo) f = !lo:=(by cases lo<;>rfl);rw[e,zxe ks (!lo) _ ks' h (h9 rfl)];by_cases hn:m' < 0
    ·have h0:¬0<=m':=(by omega);simp[wrK,zgb,zhp,hn,h0]
    ·have h0:0<=m':=(by omega);by_cases h1:m'=1
     ·subst h1;simp[wrK,zgb,zhp]
     ·simp[wrK,zgb,zhp,hn,h0,h1,zua m' h0,dgB]
theorem zp0:∀(bs:List S.Blk) (f:Bool) (z:Int) (ns:List Rn),MatL CT z bs ns->okBL bs->wrRs f ns=zbj zbl f bs
 | []=>by
  intro f z ns h _;cases ns with
  | nil=>simp only[wrRs,zbj]
  | cons n s=>simp only[MatL] at h
 | b::r=>by
  intro f z ns h ho;cases ns with
  | nil=>simp only[MatL] at h
  | cons n s=>
   simp only[MatL] at h;simp only[okBL] at ho;simp only[wrRs,zbj];rw[z3q b f z n h.1 ho.1,zp0 r f z s h.2 ho.2]
theorem zxe:∀(bs:List S.Blk) (f:Bool) (z:Int) (ns:List Rn),MatL CT z bs ns->okIL bs->wrRs f ns=zbd zbl f bs
 | []=>by
  intro f z ns h _;cases ns with
  | nil=>simp only[wrRs,zbd]
  | cons n s=>simp only[MatL] at h
 | b::r=>by
  intro f z ns h ho;cases ns with
  | nil=>simp only[MatL] at h
  | cons n s=>
   simp only[MatL] at h;simp only[okIL] at ho;simp only[wrRs,zbd];rw[z2r b f z n h.1 ho.1,zxe r f z s h.2 ho.2]
theorem z2r:∀(b:S.Blk) (f:Bool) (z:Int) (n:Rn),MatB CT z b n->okI b->wrR f n=zj2 zbl f b
 | .at_ li k m i t lo ks=>by
  intro f z n h ho;cases n with
  | nd k' m' i' t' l' ks'=>
   simp only[MatB] at h;simp only[okI] at ho;obtain⟨rfl,rfl,rfl,rfl,_,h⟩:=h;obtain⟨rfl,rfl,h3⟩:=ho;rw[if_neg (by decide)] at h;simp only[wrR,zj2];have e:tiK 7 (zc4 7 t lo) f=f:=by cases f<;>rfl
   rw[e,zp0 ks f _ ks' h h3];simp[wrK]
end
theorem zwf (l:List UInt8)(ns:List Rn)(h:MatL (λs ns=>WTo s [] 0 ns) 0 (S.za2 (l.length+1) (S.lines l)).1 ns):wrRs false ns=zmb l:=by
 unfold zmb;exact zp0 _ false 0 ns (h.mono (λs ns h=>zgz s ns h)) (zjq _ _)
mutual
theorem z3d:∀(b:S.Blk) (z:Int) (n:Rn),MatB CT z b n->okB b->okR n/\6*byR n<=pgB b
 | .at_ li k m i t lo ks=>by
  intro z n h ho;cases n with
  | nd k' m' i' t' l' ks'=>
   simp only[MatB] at h;simp only[okB] at ho;obtain⟨rfl,rfl,rfl,rfl,_,h⟩:=h;obtain⟨h1,h2,h3,h4,h5,h6,h7,h8,h9⟩:=ho;have hT:(zc4 k' t lo).length<=t.length+5:=by
    unfold zc4;split
    ·omega
    ·split
     ·split<;>simp
     ·simp
   simp only[okR,byR,pgB];by_cases hk:k'=1\/k'=2
   ·rw[if_pos hk] at h;have hw:=zl8 t;have hb:=zof (zen t);rw[<-h] at hb;exact⟨⟨by omega,by omega,h4,by omega,by rw[h];exact zog _ (zob t)⟩,by omega⟩
   ·rw[if_neg hk] at h;by_cases h6':k'=6
    ·have ih:=zyr ks _ ks' h (h9 h6');exact⟨⟨by omega,by omega,h4,by omega,ih.1⟩,by have:=ih.2;omega⟩
    ·have ih:=zp9 ks _ ks' h (h8 (by omega));exact⟨⟨by omega,by omega,h4,by omega,ih.1⟩,by have:=ih.2;omega⟩
theorem zp9:∀(bs:List S.Blk) (z:Int) (ns:List Rn),MatL CT z bs ns->okBL bs->okRs ns/\6*byRs ns<=pgL bs
 | []=>by
  intro z ns h _;cases ns with
  | nil=>simp[okRs,byRs]
  | cons n s=>simp only[MatL] at h
 | b::r=>by
  intro z ns h ho;cases ns with
  | nil=>simp only[MatL] at h
  | cons n s=>
   simp only[MatL] at h;simp only[okBL] at ho;have h1:=z3d b z n h.1 ho.1;have h2:=zp9 r z s h.2 ho.2;simp only[okRs,byRs,pgL];exact⟨⟨h1.1,h2.1⟩,by omega⟩
theorem zyr:∀(bs:List S.Blk) (z:Int) (ns:List Rn),MatL CT z bs ns->okIL bs->okRs ns/\6*byRs ns<=pgL bs
 | []=>by
  intro z ns h _;cases ns with
  | nil=>simp[okRs,byRs]
  | cons n s=>simp only[MatL] at h
 | b::r=>by
  intro z ns h ho;cases ns with
  | nil=>simp only[MatL] at h
  | cons n s=>
   simp only[MatL] at h;simp only[okIL] at ho;have h1:=z2k b z n h.1 ho.1;have h2:=zyr r z s h.2 ho.2;simp only[okRs,byRs,pgL];exact⟨⟨h1.1,h2.1⟩,by omega⟩
theorem z2k:∀(b:S.Blk) (z:Int) (n:Rn),MatB CT z b n->okI b->okR n/\6*byR n<=pgB b
 | .at_ li k m i t lo ks=>by
  intro z n h ho;cases n with
  | nd k' m' i' t' l' ks'=>
   simp only[MatB] at h;simp only[okI] at ho;obtain⟨rfl,rfl,rfl,rfl,_,h⟩:=h;obtain⟨rfl,rfl,h3⟩:=ho;rw[if_neg (by decide)] at h;have ih:=zp9 ks _ ks' h h3;have hT:(zc4 7 t lo).length<=5:=by unfold zc4;simp
   simp only[okR,byR,pgB];exact⟨⟨by omega,by omega,λe=>by omega,by omega,ih.1⟩,by have:=ih.2;omega⟩
end
theorem zwy (l:List UInt8)(hl:l.length<=1500)(ns:List Rn)(h:MatL (λs ns=>WTo s [] 0 ns) 0 (S.za2 (l.length+1) (S.lines l)).1 ns):okRs ns/\byRs ns<=1000000:=by
 have h1:=zp9 _ 0 ns (h.mono (λs ns h=>zgz s ns h)) (zjq _ _);have h2:=S.zhe l;have h3:=(zfd (l.length+1) (S.lines l) (by omega)).2.1;exact⟨h1.1,by omega⟩
end Go.Proofs.YtlojgpkajkedeaaGreatDoor
