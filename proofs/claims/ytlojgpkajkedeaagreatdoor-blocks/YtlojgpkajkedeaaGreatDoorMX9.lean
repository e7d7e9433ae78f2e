import Derived.Test.YtlojgpkajkedeaaGreatDoorME24
import Derived.Test.YtlojgpkajkedeaaGreatDoorMTD
import Derived.Test.YtlojgpkajkedeaaGreatDoorMRQ
import Derived.Test.YtlojgpkajkedeaaGreatDoorMTH
namespace Go.Proofs.YtlojgpkajkedeaaGreatDoor
open Go.RowKit
mutual
def Inl:Rn→Prop
 | .nd k _ _ _ _ ks=>(8≤k∧k≤15)∧InlL ks
def InlL:List Rn→Prop
 | []=>True
 | n::r=>Inl n∧InlL r
end
theorem InlL.append {a b:List Rn} (ha:InlL a) (hb:InlL b):InlL (a++b):=by
 induction a with
 | nil=>exact hb
 | cons x r ih=>simp only[InlL,List.cons_append] at ha ⊢;exact ⟨ha.1,ih ha.2⟩
def PInl (l:List RPt):Prop:=∀ p∈l,p.what=1→Inl p.node
theorem flushN_inl (t:List UInt8):InlL (zhh t):=by
 unfold zhh
 split
 ·trivial
 ·simp[InlL,Inl]
theorem nodesR_inl (l:List RPt) (t:List UInt8) (h:PInl l):InlL (zd6 l t):=by
 induction l generalizing t with
 | nil=>exact flushN_inl t
 | cons p r ih=>
  have hr:PInl r:=fun q hq=>h q (List.mem_cons_of_mem _ hq)
  simp only[zd6]
  split
  ·rename_i hp
   refine (flushN_inl t).append ?_
   simp only[InlL]
   exact ⟨h p (List.mem_cons_self ..) hp,ih [] hr⟩
  ·exact ih _ hr
theorem PInl.append {a b:List RPt} (ha:PInl a) (hb:PInl b):PInl (a++b):=fun p hp=>by
 rw[List.mem_append] at hp
 rcases hp with hp|hp
 ·exact ha p hp
 ·exact hb p hp
theorem PInl.one {p:RPt} (h:p.what=1→Inl p.node):PInl [p]:=fun q hq=>by
 rw[List.mem_singleton] at hq
 subst hq;exact h
theorem PInl.sub {a b:List RPt} (hb:PInl b) (h:∀ x∈a,x∈b):PInl a:=fun p hp=>hb p (h p hp)
theorem pairStep_inl (l:List RPt) (i:Nat) (h:PInl l):PInl (ze4 l i).1:=by
 unfold ze4
 cases hs:l[i]? with
 | none=>exact h
 | some s=>
  dsimp only
  split
  ·cases hf:zbn l s i with
   | none=>exact h
   | some j=>
    dsimp only
    cases hq:l[j]? with
    | none=>exact h
    | some q=>
     dsimp only
     unfold zk3
     intro p hp
     rw[List.mem_append,List.mem_cons,List.mem_cons,List.mem_cons] at hp
     rcases hp with hp|hp|hp|hp|hp
     ·exact h p (List.mem_of_mem_take hp)
     ·rw[hp];exact h q (List.mem_of_getElem? hq)
     ·rw[hp]
      intro _
      unfold zcx zhx
      simp only[Inl]
      refine ⟨by split <;> omega,nodesR_inl _ _ (h.sub (fun x hx=>List.mem_of_mem_take (List.mem_of_mem_drop hx)))⟩
     ·rw[hp];exact h s (List.mem_of_getElem? hs)
     ·exact h p (List.mem_of_mem_drop hp)
  ·exact h
theorem ze7.inl {l:List RPt} {i:Nat} {ns:List Rn} (h:ze7 l i ns) (hl:PInl l):InlL ns:=by
 induction h with
 | done l i h=>exact nodesR_inl _ _ hl
 | step l i ns h hr ih=>exact ih (pairStep_inl l i hl)
theorem zct.inl {l l':List RPt} {t:List UInt8} {p p':Nat} (h:zct l t p l' p') (hl:PInl l):PInl l':=by
 have htx:PInl [txtR [93]]:=PInl.one (fun h=>by simp[txtR] at h)
 rcases h with ⟨_,h,_⟩|⟨k,q,_,hq,_,h,_⟩|⟨k,q,ns,_,hq,_,_,hp,h,_⟩
 ·rw[h];exact hl.append htx
 ·rw[h]
  refine PInl.append (fun x hx=>?_) htx
  rcases List.mem_or_eq_of_mem_set hx with hx|hx
  ·exact hl x hx
  ·rw[hx];intro h;simp at h
 ·rw[h]
  refine PInl.append (fun x hx=>?_) (PInl.one (fun _=>?_))
  ·rw[List.mem_map] at hx
   obtain ⟨y,hy,rfl⟩:=hx
   have:=hl y (List.mem_of_mem_take hy)
   unfold zbi
   split
   ·exact this
   ·exact this
  ·unfold zcx
   simp only[Inl]
   exact ⟨by split <;> omega,hp.inl (hl.sub (fun x hx=>List.mem_of_mem_drop hx))⟩
theorem leafR_inl (k:Int) (t:List UInt8) (h:8≤k∧k≤15):PInl [zg0 k t]:=PInl.one (fun _=>by
 unfold zg0 zcx
 simp only[Inl]
 exact ⟨h,trivial⟩)
theorem zfv.inl {t:List UInt8} {l l':List RPt} {i i':Nat} (h:zfv t l i l' i') (hl:PInl l):PInl l':=by
 have htx:∀ u,PInl [txtR u]:=fun u=>PInl.one (fun h=>by simp[txtR] at h)
 obtain ⟨c,_,h⟩:=h
 split at h
 ·rw[h.1];exact hl.append (leafR_inl _ _ (by omega))
 split at h
 ·rw[h.1];exact hl.append (htx _)
 split at h
 ·split at h
  ·rw[h.1];exact hl.append (leafR_inl _ _ (by omega))
  ·rw[h.1];exact hl.append (htx _)
 split at h
 ·rw[h.1]
  refine hl.append (PInl.one (fun _=>?_))
  unfold zmi zcx
  simp only[Inl,InlL]
  exact ⟨by omega,⟨by omega,trivial⟩,trivial⟩
 split at h
 ·rw[h.1];exact PInl.append (hl.sub (fun x hx=>List.mem_of_mem_take hx)) (leafR_inl _ _ (by split <;> omega))
 split at h
 ·rw[h.1];exact hl.append (PInl.one (fun h=>by simp[runR] at h))
 split at h
 ·rw[h.1];exact hl.append (PInl.one (fun h=>by simp[zgt] at h))
 split at h
 ·rw[h.1];exact hl.append (PInl.one (fun h=>by simp[zgt] at h))
 split at h
 ·exact h.inl hl
 ·rw[h.1];exact hl.append (htx _)
theorem WTo.inl {t:List UInt8} {l:List RPt} {i:Nat} {ns:List Rn} (h:WTo t l i ns) (hl:PInl l):InlL ns:=by
 induction h with
 | done l i ns h hp=>exact hp.inl hl
 | step l i l' i' ns hs hr ih=>exact ih (hs.inl hl)
def isB (f:Nd):Bool:=decide (1≤f.kind) && decide (f.kind≤7)
mutual
theorem rflat_inl (d:Nat) (n:Rn) (h:Inl n):(zo6 d n).filter isB=[]:=by
 cases n with
 | nd k n i t l ks=>
  simp only[Inl] at h
  simp only[zo6]
  rw[List.filter_cons_of_neg (by unfold isB;simp;omega)]
  exact rflatL_inl (d+1) ks h.2
theorem rflatL_inl (d:Nat) (l:List Rn) (h:InlL l):(zbv d l).filter isB=[]:=by
 cases l with
 | nil=>rfl
 | cons x r=>
  simp only[InlL] at h
  simp only[zbv]
  rw[List.filter_append,rflat_inl d x h.1,rflatL_inl d r h.2];rfl
end
mutual
theorem bare_B (cont:List UInt8→Nat→List Nd) (hc:∀ t d,(cont t d).filter isB=[]) (d:Nat) (z:Int) (b:S.Blk) (n:Rn) (h:MatB (fun _ ns=>InlL ns) z b n) (hk:nkB b):(zo6 d n).filter isB=(zls cont d b).filter isB:=by
 cases b with
 | at_ li k m i t lo ks=>
  cases n with
  | nd k' m' i' t' l' ks'=>
   simp only[MatB] at h
   simp only[nkB] at hk
   obtain ⟨rfl,rfl,rfl,rfl,_,h⟩:=h
   simp only[zo6,zls]
   rw[zwn,List.filter_cons,List.filter_cons]
   have hrest:(zbv (d+1) ks').filter isB=((if k'=1∨k'=2 then cont t (d+1) else [])++zcg cont (d+1) ks).filter isB:=by
    by_cases hkk:k'=1∨k'=2
    ·rw[if_pos hkk] at h
     rw[if_pos hkk,hk.1 hkk,List.filter_append,hc,rflatL_inl _ _ h];rfl
    ·rw[if_neg hkk] at h
     rw[if_neg hkk,List.nil_append]
     exact bare_L cont hc (d+1) _ ks ks' h hk.2
   rw[hrest]
theorem bare_L (cont:List UInt8→Nat→List Nd) (hc:∀ t d,(cont t d).filter isB=[]) (d:Nat) (z:Int) (bs:List S.Blk) (ns:List Rn) (h:MatL (fun _ ns=>InlL ns) z bs ns) (hk:nkL bs):(zbv d ns).filter isB=(zcg cont d bs).filter isB:=by
 cases bs with
 | nil=>
  cases ns with
  | nil=>rfl
  | cons n s=>simp only[MatL] at h
 | cons b r=>
  cases ns with
  | nil=>simp only[MatL] at h
  | cons n s=>
   simp only[MatL] at h
   simp only[nkL] at hk
   simp only[zbv,zcg]
   rw[List.filter_append,List.filter_append,bare_B cont hc d z b n h.1 hk.1,bare_L cont hc d z r s h.2 hk.2]
end
mutual
def kdP:Pt→Prop
 | .mk k _ _ kids _ _ _=>8≤k∧k≤15∧(k≤11→kids=[])∧kdPs kids
def kdPs:List Pt→Prop
 | []=>True
 | p::r=>kdP p∧kdPs r
end
theorem zdv (p:Pt) (r:List Pt):kdPs (p::r)↔kdP p∧kdPs r:=by simp only[kdPs]
theorem zh6:kdPs []:=by simp only[kdPs]
theorem zcr (a b:List Pt):kdPs (a++b)↔kdPs a∧kdPs b:=by
 induction a with
 | nil=>simp[kdPs]
 | cons p r ih=>simp only[List.cons_append,zdv,ih,and_assoc]
theorem zkj (p:Pt):kdPs [p]↔kdP p:=by simp[kdPs]
theorem zgj (p:Pt) (t:List UInt8):kdP (p.za4 t)↔kdP p:=by
 cases p with
 | mk k i t0 kids z a b=>show kdP (.mk k i t kids z a b)↔_;simp only[kdP]
theorem zvi (f:Nat) (l:List Pt) (h:kdPs l):kdPs (zdr f l):=by
 induction f generalizing l with
 | zero=>exact zh6
 | succ f ih=>
  cases l with
  | nil=>exact zh6
  | cons p r=>
   rw[zdv] at h
   simp only[zdr]
   split
   ·split
    ·exact ih r h.2
    ·cases r with
     | nil=>exact (zkj p).2 h.1
     | cons q r'=>
      have h2:=h.2
      rw[zdv] at h2
      dsimp only
      split
      ·exact ih _ ((zdv _ _).2 ⟨(zgj _ _).2 h2.1,h2.2⟩)
      ·exact (zdv _ _).2 ⟨h.1,ih _ h.2⟩
   ·exact (zdv _ _).2 ⟨h.1,ih r h.2⟩
theorem zz0 (f:Nat) (L:List Pt) (s:Pt) (h:kdPs (L++[s])):kdPs ((zcb f L s).1++[(zcb f L s).2]):=by
 induction f generalizing L s with
 | zero=>exact h
 | succ f ih=>
  simp only[zcb]
  split
  ·cases ho:zeg s L with
   | none=>exact h
   | some v=>
    obtain ⟨l1,x,m⟩:=v
    dsimp only
    refine ih _ _ ?_
    obtain ⟨h1,h2⟩:=zih s L l1 x m ho
    subst h1
    simp only[zcr,zdv] at h
    simp only[zcr,zdv]
    refine ⟨⟨h.1.1,(zgj _ _).2 h.1.2.1,?_,zh6⟩,(zgj _ _).2 h.2.1,zh6⟩
    have hj:kdPs (zfm m):=zvi _ _ h.1.2.2
    unfold zgh
    simp only[kdP]
    refine ⟨by split <;> decide,by split <;> decide,?_,hj⟩
    intro e;exfalso;revert e;split <;> decide
  ·exact h
theorem zyc (L l:List Pt) (h:kdPs (L++l)):kdPs (zil L l):=by
 induction l generalizing L with
 | nil=>simpa [zil] using h
 | cons s r ih=>
  simp only[zil]
  refine ih _ ?_
  rw[zcr,zdv] at h
  rw[zcr]
  exact ⟨zz0 _ _ _ ((zcr _ _).2 ⟨h.1,(zkj s).2 h.2.1⟩),h.2.2⟩
theorem zwh (l:List Pt) (h:kdPs l):kdPs (zd7 l):=by
 unfold zd7 zfm
 exact zvi _ _ (zyc [] l h)
theorem zyv (k:Int) (i t:List UInt8) (z:Nat) (a b:Bool) (h1:8≤k) (h2:k≤15):kdP (.mk k i t [] z a b):=by
 simp only[kdP];exact ⟨h1,h2,fun _=>trivial,zh6⟩
theorem z0f (t:List UInt8):kdP (zbj t):=zyv _ _ _ _ _ _ (by decide) (by decide)
theorem z06 (ct:ByteArray) (f k:Nat):kdPs (zcw ct f k):=by
 unfold zcw
 split
 ·exact (zkj _).2 (z0f _)
 ·exact zh6
def FitK (s:St):Prop:=kdPs s.ps
theorem FitK.skip {s:St} (h:FitK s) (ct:ByteArray) (n:Nat):FitK (s.skip ct n):=(zcr _ _).2 ⟨h,z06 ct s.f s.k⟩
theorem FitK.text {s:St} (h:FitK s) (n:Nat):FitK (s.text n):=h
theorem FitK.lay {s:St} (h:FitK s) (ct:ByteArray) (p:Pt) (n:Nat) (hp:kdP p):FitK (s.lay ct p n):=(zcr _ _).2 ⟨(zcr _ _).2 ⟨h,z06 ct s.f s.k⟩,(zkj p).2 hp⟩
theorem FitK.open {s:St} (h:FitK s) (ct:ByteArray) (t:List UInt8) (im:Bool):FitK (s.open ct t im):=FitK.lay h ct (zbj t) t.length (z0f t)
theorem zvk (l:List Pt) (j:Nat) (h:kdPs l):kdPs (l.take j):=by
 rw[← List.take_append_drop j l,zcr] at h;exact h.1
theorem zuw (l:List Pt) (j:Nat) (h:kdPs l):kdPs (l.drop j):=by
 rw[← List.take_append_drop j l,zcr] at h;exact h.2
theorem FitK.bracket {s:St} (h:FitK s) (ct:ByteArray):FitK (s.bracket ct).2:=by
 unfold St.bracket
 split
 ·unfold St.close
  split
  ·exact h
  ·rename_i o _
   split
   ·refine (zcr _ _).2 ⟨zvk _ _ h,(zkj _).2 ?_⟩
    have h5:=zwh (s.ps.drop (o.j+1)++zcw ct s.f s.k) ((zcr _ _).2 ⟨zuw _ _ h,z06 ct s.f s.k⟩)
    unfold zhn
    simp only[kdP]
    refine ⟨by split <;> decide,by split <;> decide,?_,h5⟩
    intro e;exfalso;revert e;split <;> decide
   ·exact h
 ·split
  ·exact h.open ct _ _
  ·split
   ·exact h.open ct _ _
   ·exact h
theorem FitK.step {s:St} (h:FitK s) (ct:ByteArray) (hk:s.k<ct.size):FitK (step ct s):=by
 rw[zf4 ct s hk]
 unfold zj3
 split
 ·split
  ·exact h.lay ct _ _ (zyv _ _ _ _ _ _ (by decide) (by decide))
  ·split
   ·exact (h.skip ct 1).text 1
   ·exact h.text 1
 ·split
  ·split
   ·exact h.lay ct _ _ (zyv _ _ _ _ _ _ (by decide) (by decide))
   ·exact h.text _
  ·split
   ·split
    ·split
     ·exact h.lay ct _ _ (zyv _ _ _ _ _ _ (by decide) (by decide))
     ·exact h.lay ct _ _ (zyv _ _ _ _ _ _ (by decide) (by decide))
    ·exact h.text _
   ·split
    ·exact h.lay ct _ _ (zyv _ _ _ _ _ _ (by decide) (by decide))
    ·split
     ·split
      ·refine h.lay ct _ _ ?_
       unfold zj0
       simp only[kdP]
       exact ⟨by decide,by decide,fun e=>absurd e (by decide),(zkj _).2 (z0f _)⟩
      ·exact h.text 1
     ·split
      ·exact h.lay ct _ _ (zyv _ _ _ _ _ _ (by decide) (by decide))
      ·split
       ·split
        ·exact h.bracket ct
        ·exact (h.bracket ct).text 1
       ·exact h.text 1
theorem ends_fitK (ct:ByteArray) (s:St) (r:List Pt) (h:Ends ct s r) (hf:FitK s):kdPs r:=by
 induction h with
 | done s h=>exact hf.skip ct 0
 | go s r h hr ih=>exact ih (hf.step ct h)
theorem contT_kd (c:List UInt8):kdPs (zi9 c):=by
 by_cases hx:∃ r,Ends (S.B c) zfq r
 ·obtain ⟨r,h⟩:=hx
  rw[zkb c r h]
  exact zwh r (ends_fitK _ _ _ h zh6)
 ·unfold zi9;rw[dif_neg hx];exact zh6
mutual
theorem ptNds_bare (d:Nat):∀ p:Pt,kdP p→(zqw d p).filter isB=[]
 | .mk k i t kids _ _ _=>by
  intro h
  simp only[kdP] at h
  simp only[zqw]
  rw[List.filter_cons_of_neg (by unfold isB;simp;omega)]
  exact ptsNds_bare (d+1) kids h.2.2.2
theorem ptsNds_bare (d:Nat):∀ l:List Pt,kdPs l→(zc5 d l).filter isB=[]
 | []=>fun _=>rfl
 | p::r=>by
  intro h
  simp only[kdPs] at h
  simp only[zc5]
  rw[List.filter_append,ptNds_bare d p h.1,ptsNds_bare d r h.2];rfl
end
theorem contN_bare (c:List UInt8) (d:Nat):(zh0 c d).filter isB=[]:=by
 unfold zh0;exact ptsNds_bare d _ (contT_kd c)
set_option maxRecDepth 100000 in
set_option maxHeartbeats 4000000 in
theorem lawbare_any (B:Nat) (a:Option Addr) (cp:Nat) (l:List Nd) (w:World) (hown:zba B a cp l w) (hl:l.length≤1000000) :
  Calls Tryz.prog 17 #[.slice a l.length cp] w fun e w'=>∃ a' cp',e = .returned (.slice a' (l.filter isB).length cp')∧zba w.heap.size a' cp' (l.filter isB) w'∧Below w.heap.size w w':=by
 obtain ⟨i0,hi,hz0,hz1,hz2⟩:=info_parts Tryz.zkk
 have hownH:=hid hown
 clear hown
 go_enter Tryz.func17,Tryz.ntmps17
 go_wp2
 go_loopw [3,4] (fun v i wr=>∃ (k:Nat) (a':Option Addr) (cp':Nat),k≤l.length∧i = .int .i64 k∧v = .slice a' ((l.take k).filter isB).length cp'∧Hid (zba w.heap.size a' cp' ((l.take k).filter isB) wr∧Below w.heap.size w wr)) (fun _ i _=>l.length-(intOf i).toNat)
 case atStart=>exact ⟨0,none,0,Nat.zero_le _,rfl,by simp,hid ⟨by simpa using zba.nil _ _,Below.refl _ _⟩⟩
 case round=>
  obtain ⟨k,a',cp',hk,rfl,rfl,hr⟩:=hrel
  by_cases hlt:k<l.length
  ·obtain ⟨x,hx⟩:∃ x,l[k]?=some x:=⟨l[k],List.getElem?_eq_getElem hlt⟩
   obtain ⟨g0,rfl,hg0,hg0l,c0,c1,c2,c3,c4⟩:=zno hownH.out k x hx
   obtain ⟨F,hF⟩:∃ F,(l.take k).filter isB=F:=⟨_,rfl⟩
   have hFl:F.length≤k:=by rw[← hF];have:=List.length_filter_le isB (l.take k);rw[List.length_take] at this;omega
   have hnx:(l.take (k+1)).filter isB=F++[x].filter isB:=by rw[List.take_add_one,hx,List.filter_append,hF];rfl
   rw[hF] at hr ⊢
   have hb:Below w.heap.size w wr:=hr.out.2
   have hszr:w.heap.size≤wr.heap.size:=hb.size
   have key:∀ j,wr.cell? ⟨g0,j,none⟩=w.cell? ⟨g0,j,none⟩:=fun j=>hb.cell (p:=⟨g0,j,none⟩) hg0l
   rw[← key] at c0 c1 c2 c3 c4
   obtain ⟨xd,xk,xn,xi,xt⟩:=x
   dsimp only at c0 c1 c2 c3 c4
   have hi1:(k:Int)<(l.length:Int):=by omega
   have hi0:(0:Int)≤(k:Int):=by omega
   by_cases hB:1≤xk∧xk≤7
   ·have hb1:1≤xk:=hB.1
    have hb2:xk≤7:=hB.2
    have hnxH:Hid ((l.take (k+1)).filter isB=F++[⟨xd,xk,xn,xi,xt⟩]):=hid (by rw[hnx,List.filter_cons_of_pos (by unfold isB;simp[hb1,hb2])];rfl)
    have hown2:Hid (∀ o1,(wr.alloc o1).ownsRow w.heap.size 36 5 (.slice a' F.length cp') F.length (zao F)):=hid (fun o1=>zba.alloc hr.out.1 o1)
    have hltr:Hid (∀ g,(Value.slice a' F.length cp').ownBlock=some g→w.heap.size≤g):=hid (fun g hg=>(hr.out.1.lt g hg).1)
    have hnew:Hid (∀ j u,(five ⟨xd,xk,xn,xi,xt⟩)[j]?=some u→(wr.alloc (.cells #[.int .i64 xd,.int .i64 xk,.int .i64 xn,.string xi,.string xt] 36)).cell? ((⟨wr.heap.size,0,none⟩:Addr).add j)=some u):=hid (fun j u hj=>World.news_of_block (za1 _ _) j u (by exact hj))
    have hone:Hid (∀ u∈five ⟨xd,xk,xn,xi,xt⟩,u.oneCell'=true):=hid (by
     intro u hu;simp[five] at hu;rcases hu with rfl|rfl|rfl|rfl|rfl <;> rfl)
    have hbH:=hid hb
    clear hb key hx hnx hF hB hr
    go_wp2_with (at_builtin;refine wpList_append_lies _ (by rfl) _ _ 22 (by rfl) w.heap.size 36 i0 (.agg #[.int .i64 0,.int .i64 0,.int .i64 0,.string ⟨#[]⟩,.string ⟨#[]⟩]) 5 56 Tryz.underlying22 hi hz0 hz1 hz2 (by rfl) (by omega) (.slice a' F.length cp') F.length (zao F) (by rfl) (hown2.out _) ⟨wr.heap.size,0,none⟩ 1 1 (five ⟨xd,xk,xn,xi,xt⟩) (by rfl) (by rfl) hnew.out hone.out (by omega) (by unfold maxLen;omega) (by omega) (by simp;omega) (wr.heap.size+1) (by simp) ?_)
    intro g cap1 w3 hown3 hgrow hat hltg
    have hb3:Hid (Below w.heap.size w w3):=hid (Below.grown (hbH.out.alloc hszr _) hgrow (by simp;omega) (fun q hq=>hltr.out q hq))
    have hown4:Hid (zba w.heap.size (some ⟨g,0,none⟩) cap1 (F++[⟨xd,xk,xn,xi,xt⟩]) w3):=hid (by
     unfold zba
     rw[zgq,List.length_append]
     exact hown3)
    clear hown3 hgrow hat hltg
    go_wp2
    go_roundw
    case rel=>exact ⟨k+1,some ⟨g,0,none⟩,cap1,by omega,by go_num,by rw[hnxH.out];simp,hid ⟨by rw[hnxH.out];exact hown4.out,hb3.out⟩⟩
    case measure=>simp[intOf];omega
   ·have hnxH:Hid ((l.take (k+1)).filter isB=F):=hid (by rw[hnx,List.filter_cons_of_neg (by unfold isB;simp;omega)];simp)
    have hrH:=hid hr.out
    by_cases hb1:1≤xk
    ·have hb2:¬ xk≤7:=fun h=>hB ⟨hb1,h⟩
     have hb2d:decide (xk≤7)=false:=decide_eq_false hb2
     clear hb key hx hnx hF hB hr
     go_wp2
     go_roundw
     case rel=>exact ⟨k+1,a',cp',by omega,by go_num,by rw[hnxH.out],hid ⟨by rw[hnxH.out];exact hrH.out.1,hrH.out.2⟩⟩
     case measure=>simp[intOf];omega
    ·have hb1d:decide (1≤xk)=false:=decide_eq_false hb1
     clear hb key hx hnx hF hB hr
     go_wp2
     go_roundw
     case rel=>exact ⟨k+1,a',cp',by omega,by go_num,by rw[hnxH.out],hid ⟨by rw[hnxH.out];exact hrH.out.1,hrH.out.2⟩⟩
     case measure=>simp[intOf];omega
  ·obtain rfl:k=l.length:=by omega
   rw[List.take_length] at hr ⊢
   have hrH:=hid hr.out
   clear hr
   go_wp2
   go_ret
   exact ⟨a',cp',rfl,hrH.out.1,hrH.out.2⟩
def headT:List UInt8:=[62,32,45,32,97,10,10,35,32,98]
def headN:List Nd:=[⟨0,5,0,⟨#[]⟩,⟨#[]⟩⟩,⟨1,6,-1,⟨#[]⟩,⟨#[116,105,103,104,116]⟩⟩,⟨2,7,0,⟨#[]⟩,⟨#[]⟩⟩,⟨3,1,0,⟨#[]⟩,⟨#[]⟩⟩,⟨0,2,1,⟨#[]⟩,⟨#[]⟩⟩]
def headB:List S.Blk:=(S.za2 (headT.length+1) (S.lines headT)).1
def headB2:List S.Blk:=[.at_ 0 5 0 [] [] false [.at_ 0 6 (-1) [] [] false [.at_ 0 7 0 [] [] false [.at_ 0 1 0 [] [97] false []]]],.at_ 2 2 1 [] [98] false []]
theorem headB_eq:headB=headB2:=by kernel_rfl
theorem head_bare:(zem headT).filter isB=headN:=by
 show (zcg zh0 0 headB).filter isB=headN
 rw[headB_eq]
 simp[headB2,zcg,zls,List.filter_append,contN_bare,isB,headN,textOf,zl0,S.B]
set_option maxRecDepth 100000 in
set_option maxHeartbeats 4000000 in
theorem headed_any (w:World) (henv:Env w) :
  Calls Tryz.prog 18 #[] w fun e w'=>e = .returned (.bool true)∧Below w.heap.size w w':=by
 have hT:=hid (zsv ⟨#[62,32,45,32,97,10,10,35,32,98]⟩ w (by decide) henv)
 have hnl:=zmc headT
 obtain ⟨N,hN⟩:∃ N,zem headT=N:=⟨_,rfl⟩
 rw[show zem (⟨#[62,32,45,32,97,10,10,35,32,98]⟩:ByteArray).data.toList=N from hN] at hT
 rw[hN] at hnl
 have hNB:Hid (N.filter isB=headN):=hid (by rw[← hN];exact head_bare)
 have hNl:N.length≤1000000:=by have:headT.length=10:=rfl;omega
 clear henv hN hnl
 go_enter Tryz.func18,Tryz.ntmps18
 go_wp2_with fail
 refine hT.out.mono ?_
 rintro e w1 ⟨B1,a1,cp1,rfl,hB1,hown1,hb1⟩
 obtain ⟨W,hW⟩:∃ W,W=w1.alloc (.cells (zao headN).toArray 36):=⟨_,rfl⟩
 have hbW:Below w1.heap.size w1 W:=by rw[hW];exact (Below.refl _ _).alloc (Nat.le_refl _) _
 have hlW:zba w1.heap.size (some ⟨w1.heap.size,0,none⟩) 5 headN W:=by rw[hW];exact zqt w1 headN 5 rfl (by decide)
 have hBr:=lawbare_any B1 a1 cp1 N W (hown1.below hbW) hNl
 rw[hNB.out] at hBr
 have hBrH:=hid hBr
 have hWH:Hid (W=w1.alloc (.cells #[.int .i64 0,.int .i64 5,.int .i64 0,.string ⟨#[]⟩,.string ⟨#[]⟩,.int .i64 1,.int .i64 6,.int .i64 (-1),.string ⟨#[]⟩,.string ⟨#[116,105,103,104,116]⟩,.int .i64 2,.int .i64 7,.int .i64 0,.string ⟨#[]⟩,.string ⟨#[]⟩,.int .i64 3,.int .i64 1,.int .i64 0,.string ⟨#[]⟩,.string ⟨#[]⟩,.int .i64 0,.int .i64 2,.int .i64 1,.string ⟨#[]⟩,.string ⟨#[]⟩] 36)):=hid hW
 have hb1H:=hid hb1
 have hbWH:=hid hbW
 have hlWH:=hid hlW
 have hz1:w.heap.size≤w1.heap.size:=hb1.size
 clear hW hbW hlW hown1 hb1 hBr
 go_wp2_with fail
 rw[← hWH.out]
 refine hBrH.out.mono ?_
 rintro e w2 ⟨a2,cp2,rfl,hown2,hb2⟩
 have hzW:w1.heap.size≤W.heap.size:=hbWH.out.size
 have hSm:=zge W.heap.size w1.heap.size a2 (some ⟨w1.heap.size,0,none⟩) cp2 5 headN w2 hown2 (hlWH.out.below hb2) (by decide)
 have hb2H:Hid (Below w.heap.size w w2):=hid (hb1H.out.trans ((hbWH.out.mono hz1).trans (hb2.mono (by omega))))
 have hz2:w.heap.size≤w2.heap.size:=hb2H.out.size
 rw[show headN.length=5 from rfl] at hSm ⊢
 have hSmH:=hid hSm
 clear hown2 hb2 hSm
 go_wp2_with fail
 refine hSmH.out.mono ?_
 rintro e w3 ⟨rfl,hb3⟩
 have hb3H:Hid (Below w.heap.size w w3):=hid (hb2H.out.trans (hb3.mono hz2))
 clear hb3
 go_wp2
 go_ret
 exact ⟨rfl,hb3H.out⟩
theorem blocks_same (l:List UInt8) (ns:List Rn) (h:MatL (fun s ns=>WTo s [] 0 ns) 0 (S.za2 (l.length+1) (S.lines l)).1 ns):(zbv 0 ns).filter isB=(zem l).filter isB:=by
 unfold zem
 refine bare_L zh0 contN_bare 0 0 _ ns (h.mono (fun s ns h=>h.inl (fun p hp=>by simp at hp))) (zu6 _ _)
set_option maxRecDepth 100000 in
set_option maxHeartbeats 4000000 in
theorem lawblocks_any (s:ByteArray) (w:World) (henv:Env w) :
  Calls Tryz.prog 3 #[.string s] w fun e w'=>e = .returned (.bool true)∧Below w.heap.size w w':=by
 by_cases hs:s.size≤1500
 ·have hT:=hid (zsv s w hs henv)
  obtain ⟨N,hN⟩:∃ N,zem s.data.toList=N:=⟨_,rfl⟩
  have hNl:N.length≤1000000:=by have:=zmc s.data.toList;rw[hN,S.length_data] at this;omega
  rw[hN] at hT
  have hNH:=hid hN
  have henvH:=hid henv
  clear hN henv
  go_enter Tryz.func3,Tryz.ntmps3
  go_wp2_with fail
  refine hT.out.mono ?_
  rintro e w1 ⟨B1,a1,cp1,rfl,hB1,hown1,hb1⟩
  have hR:=hid (zwi s w1 hs)
  have hown1H:=hid hown1
  have hb1H:=hid hb1
  have hz1:w.heap.size≤w1.heap.size:=hb1.size
  clear hown1 hb1
  go_wp2_with fail
  refine hR.out.mono ?_
  rintro e w2 ⟨B2,a2,cp2,ns,rfl,hU⟩
  have hz2:w1.heap.size≤w2.heap.size:=hU.out.2.2.1.size
  have hsame:(zbv 0 ns).filter isB=N.filter isB:=by
   rw[← hNH.out]
   exact blocks_same s.data.toList ns (by rw[S.length_data];exact hU.out.2.2.2)
  have hsm:=zv9 s.data.toList (s.size+1) 0 ns hU.out.2.2.2
  rw[S.length_data] at hsm
  have hb2:Below w1.heap.size w1 w2:=hU.out.2.2.1
  obtain ⟨M,hM⟩:∃ M,zbv 0 ns=M:=⟨_,rfl⟩
  have hMl:M.length≤1000000:=by rw[← hM,zfg];omega
  have hU2:Hid (zba B2 a2 cp2 M w2):=hid (by rw[← hM];exact hU.out.2.1)
  rw[hM] at hsame ⊢
  have hA:=hid (lawbare_any B1 a1 cp1 N w2 (hown1H.out.below hb2) hNl)
  have hb2H:Hid (Below w.heap.size w w2):=hid (hb1H.out.trans (hb2.mono hz1))
  have hsameH:=hid hsame
  clear hsame hsm hb2 hM hU
  go_wp2_with fail
  refine hA.out.mono ?_
  rintro e w3 ⟨a3,cp3,rfl,hown3,hb3⟩
  have hz3:w2.heap.size≤w3.heap.size:=hb3.size
  have hBb:=lawbare_any B2 a2 cp2 M w3 (hU2.out.below hb3) hMl
  rw[hsameH.out] at hBb
  obtain ⟨F,hF⟩:∃ F,N.filter isB=F:=⟨_,rfl⟩
  have hFl:F.length≤1000000:=by rw[← hF];exact Nat.le_trans (List.length_filter_le _ _) hNl
  rw[hF] at hBb hown3 ⊢
  have hBbH:=hid hBb
  have hown3H:=hid hown3
  have hb3H:Hid (Below w.heap.size w w3):=hid (hb2H.out.trans (hb3.mono (by omega)))
  clear hBb hown3 hb3 hF
  go_wp2_with fail
  refine hBbH.out.mono ?_
  rintro e w4 ⟨a4,cp4,rfl,hown4,hb4⟩
  have hz4:w3.heap.size≤w4.heap.size:=hb4.size
  have hS:=hid (zge w2.heap.size w3.heap.size a3 a4 cp3 cp4 F w4 (hown3H.out.below hb4) hown4 hFl)
  have hb4H:Hid (Below w.heap.size w w4):=hid (hb3H.out.trans (hb4.mono (by omega)))
  clear hown4 hb4
  go_wp2_with fail
  refine hS.out.mono ?_
  rintro e w5 ⟨rfl,hb5⟩
  have hz5:w4.heap.size≤w5.heap.size:=hb5.size
  have hb5H:Hid (Below w.heap.size w w5):=hid (hb4H.out.trans (hb5.mono (by omega)))
  have hH:=hid (headed_any w5 (henvH.out.below hb5H.out))
  clear hb5
  go_wp2_with fail
  refine hH.out.mono ?_
  rintro e w6 ⟨rfl,hb6⟩
  have hb6H:Hid (Below w.heap.size w w6):=hid (hb5H.out.trans (hb6.mono (by omega)))
  have hN6:=hid (zn5 0 w6)
  clear hb6
  go_wp2_with fail
  refine hN6.out.mono ?_
  rintro e w7 ⟨rfl,rfl⟩
  go_wp2_with fail
  refine hN6.out.mono ?_
  rintro e w7 ⟨rfl,rfl⟩
  go_wp2
  go_ret
  exact ⟨rfl,hb6H.out⟩
 ·have hT:=hid (zx4 s w (by omega))
  have hR:=hid (ztb s w (by omega))
  have hA:=hid (lawbare_any w.heap.size none 0 [] w (zba.nil _ _) (by simp))
  have henvH:=hid henv
  clear henv
  go_enter Tryz.func3,Tryz.ntmps3
  go_wp2_with fail
  refine hT.out.mono ?_
  rintro e w1 ⟨rfl,rfl⟩
  go_wp2_with fail
  refine hR.out.mono ?_
  rintro e w2 ⟨rfl,rfl⟩
  go_wp2_with fail
  refine hA.out.mono ?_
  rintro e w3 ⟨a3,cp3,rfl,hown3,hb3⟩
  have hz3:w.heap.size≤w3.heap.size:=hb3.size
  have hBb:=hid (lawbare_any w3.heap.size none 0 [] w3 (zba.nil _ _) (by simp))
  have hown3H:=hid hown3
  have hb3H:=hid hb3
  clear hown3 hb3
  go_wp2_with fail
  refine hBb.out.mono ?_
  rintro e w4 ⟨a4,cp4,rfl,hown4,hb4⟩
  have hz4:w3.heap.size≤w4.heap.size:=hb4.size
  have hS:=hid (zge w.heap.size w3.heap.size a3 a4 cp3 cp4 ([].filter isB) w4 (hown3H.out.below hb4) hown4 (by simp))
  have hb4H:Hid (Below w.heap.size w w4):=hid (hb3H.out.trans (hb4.mono (by omega)))
  clear hown4 hb4
  go_wp2_with fail
  refine hS.out.mono ?_
  rintro e w5 ⟨rfl,hb5⟩
  have hz5:w4.heap.size≤w5.heap.size:=hb5.size
  have hb5H:Hid (Below w.heap.size w w5):=hid (hb4H.out.trans (hb5.mono (by omega)))
  have hH:=hid (headed_any w5 (henvH.out.below hb5H.out))
  clear hb5
  go_wp2_with fail
  refine hH.out.mono ?_
  rintro e w6 ⟨rfl,hb6⟩
  have hb6H:Hid (Below w.heap.size w w6):=hid (hb5H.out.trans (hb6.mono (by omega)))
  have hN6:=hid (zn5 1 w6)
  clear hb6
  go_wp2_with fail
  refine hN6.out.mono ?_
  rintro e w7 ⟨rfl,rfl⟩
  go_wp2_with fail
  refine hN6.out.mono ?_
  rintro e w7 ⟨rfl,rfl⟩
  go_wp2
  go_ret
  exact ⟨rfl,hb6H.out⟩
end Go.Proofs.YtlojgpkajkedeaaGreatDoor
