import Derived.Test.YtlojgpkajkedeaaGreatDoorNW13
import Derived.Deep.AppendLies
set_option maxHeartbeats 16000000
set_option maxRecDepth 100000
namespace Go.Proofs.YtlojgpkajkedeaaGreatDoor
open Go.RowKit Go.Proofs.Tryz
inductive Rep (w:World)(A:Nat->Prop):Value->List S.Blk->Prop
 | nil:Rep w A (.slice none 0 0) []
 | some (b o cap:Nat) (ts:List S.Blk) (kv:Nat->Value) (ha:A b) (hcap:ts.length<=cap)
   (hc:∀i t,ts[i]?=some t->w.cell? ⟨b,o+8*i,none⟩=some (.int .i64 t.kind)/\w.cell? ⟨b,o+8*i+1,none⟩=some (.int .i64 t.line)/\(∃la ln lc,w.cell? ⟨b,o+8*i+2,none⟩=some (.slice la ln lc))/\w.cell? ⟨b,o+8*i+3,none⟩=some (.int .i64 t.n)/\w.cell? ⟨b,o+8*i+4,none⟩=some (.string (S.B t.info))/\w.cell? ⟨b,o+8*i+5,none⟩=some (.string (S.B t.text))/\w.cell? ⟨b,o+8*i+6,none⟩=some (.bool t.loose)/\w.cell? ⟨b,o+8*i+7,none⟩=some (kv i))
   (hk:∀i t,ts[i]?=some t->Rep w A (kv i) t.kids):Rep w A (.slice (some ⟨b,o,none⟩) ts.length cap) ts
theorem Rep.move {w w':World}{A A':Nat->Prop}{v:Value}{ts:List S.Blk}(h:Rep w A v ts)(hA:∀b,A b->A' b)(hw:∀b,A b->w'.heap[b]?=w.heap[b]?):Rep w' A' v ts:=by
 induction h with
 | nil=>exact .nil
 | some b o cap ts kv ha hcap hc hk ih=>
  have key:∀o,w'.cell? ⟨b,o,none⟩=w.cell? ⟨b,o,none⟩:=λo=>World.cell?_of_block (a:=⟨b,o,none⟩) (hw b ha);refine .some b o cap ts kv (hA b ha) hcap (λi t hi=>?_) (λi t hi=>ih i t hi);obtain⟨h0,h1,⟨la,ln,lc,h2⟩,h3,h4,h5,h6,h7⟩:=hc i t hi;exact⟨(key _).trans h0,(key _).trans h1,⟨la,ln,lc,(key _).trans h2⟩,(key _).trans h3,(key _).trans h4,(key _).trans h5,(key _).trans h6,(key _).trans h7⟩
theorem Rep.form {w:World}{A:Nat->Prop}{v:Value}{ts:List S.Blk}(h:Rep w A v ts):∃a n c,v=.slice a n c:=by
 cases h with
 | nil=>exact⟨_,_,_,rfl⟩
 | some=>exact⟨_,_,_,rfl⟩
def lenOf:Value->Nat | .slice _ k _=>k|_=>0
def bytes (l:List (List UInt8)):Nat:=(l.map List.length).sum
def zpq (d:Nat):Prop:=∀(b o cap:Nat) (ss:List ByteArray) (w:World),ss.length<=cap->b<w.heap.size->RowS w b o ss->Env w->bytes (dat ss)<d ->
 Calls prog 64 #[.slice (some ⟨b,o,none⟩) ss.length cap] w λe w'=>∃v,e=.returned (.tuple #[v,.bool (S.za2 d (dat ss)).2])/\Rep w' (λx=>w.heap.size<=x/\x<w'.heap.size) v (S.za2 d (dat ss)).1/\Below w.heap.size w w'
theorem ziz {w:World}{N:Nat}(v0 v1 v2 v3 v4 v5 v6 v7:Value)(b:Nat)(h:b≠N):((((((((w.setCell ⟨N,0,none⟩ v0).setCell ⟨N,1,none⟩ v1).setCell ⟨N,2,none⟩ v2).setCell ⟨N,3,none⟩ v3).setCell ⟨N,4,none⟩ v4).setCell ⟨N,5,none⟩ v5).setCell ⟨N,6,none⟩ v6).setCell ⟨N,7,none⟩ v7).heap[b]?=w.heap[b]?:=by
 iterate 8 rw[Below.heap_setCell _ _ _ _ (by simpa using h)]
theorem zl6 {w:World}{N:Nat}(v0 v1 v2 v3 v4 v5 v6 v7:Value):((((((((w.setCell ⟨N,0,none⟩ v0).setCell ⟨N,1,none⟩ v1).setCell ⟨N,2,none⟩ v2).setCell ⟨N,3,none⟩ v3).setCell ⟨N,4,none⟩ v4).setCell ⟨N,5,none⟩ v5).setCell ⟨N,6,none⟩ v6).setCell ⟨N,7,none⟩ v7).heap.size=w.heap.size:=by
 simp[World.setCell]
theorem zpe (ss:List ByteArray)(k:Nat):tot (ss.take k)<=tot ss:=by
 induction ss generalizing k with
 | nil=>simp[tot]
 | cons s r ih=>cases k with
  | zero=>simp[tot]
  | succ k=>have:=ih k;simp only[Qz,tot,Qs,List.sum_cons] at *;omega
theorem zj5 (ss:List ByteArray)(k:Nat)(h:∀j,j<k->((dat ss)[j]?.map S.zat)=some true):S.zae (dat ss)=((dat ss).take k).map S.zcv++S.zae ((dat ss).drop k):=by
 induction k with
 | zero=>simp
 | succ k ih=>
  have h1:=ih (λj hj=>h j (by omega));have hk:=h k (by omega);cases hg:(dat ss)[k]? with
  | none=>rw[hg] at hk;simp at hk
  | some x=>
   rw[hg] at hk;simp at hk;obtain⟨hlt,hx⟩:=Qb.1 hg;rw[h1,Qm hlt,hx,List.take_add_one,hg];simp[S.zae,hk]
theorem zox (d:Nat)(hR:zpq d)(b o cap:Nat)(ss:List ByteArray)(w:World)(hbw:b<w.heap.size)(hrow:RowS w b o ss)(henv:Env w)(hq0:((dat ss)[0]?.map S.zat)=some true)(hd:bytes (S.zae (dat ss))<d):Calls prog 120 #[.slice (some ⟨b,o,none⟩) ss.length cap] w λe w'=>
   ∃kv,e=.returned (.tuple #[zdu (.mk 5 0 [] [] false (S.za2 d (S.zae (dat ss))).1) kv,.int .i64 ((S.zae (dat ss)).length:Nat)])/\Rep w' (λx=>w.heap.size<=x/\x<w'.heap.size) kv (S.za2 d (S.zae (dat ss))).1/\Below w.heap.size w w':=by
 have htot:=hrow.2;have hlen:=hrow.len;obtain⟨i0,hi,hz0,hz1,hz2⟩:=info_parts Tryz.zsj;go_enter func120,ntmps120;go_wp2;obtain⟨WA,lq⟩:=Qzz (w.alloc (.cells #[.int .i64 0,.int .i64 0,.slice none 0 0,.int .i64 0,.string ⟨#[]⟩,.string ⟨#[]⟩,.bool false,.slice none 0 0] 110));have hsA:WA.heap.size=w.heap.size+1:=by rw[lq];simp
 have mh:Below w.heap.size w WA:=by rw[lq];exact(Below.refl _ w).alloc (Qc _) _
 have hx0:WA.heap[w.heap.size]?=some (.cells #[.int .i64 0,.int .i64 0,.slice none 0 0,.int .i64 0,.string ⟨#[]⟩,.string ⟨#[]⟩,.bool false,.slice none 0 0] 110):=by rw[lq];exact za1 _ _
 rw[<-lq];have gy:=hid hsA;have jw:=hid hx0;have jy:=hid (hrow.below mh hbw);have jk:=hid (henv.below mh);have qj:=hid hR;have kg:=hid hq0;have qh:=hid hd;clear hsA hx0 lq hR hq0 hd;go_loopw [4] (λv wr=>∃(k:Nat) (os:List ByteArray) (a:Option Addr) (cp:Nat),k<=ss.length/\v=.slice a k cp/\os.length=k/\(∀j,j<k->((dat ss)[j]?.map S.zat)=some true)/\dat os=((dat ss).take k).map S.zcv/\tot os<=tot (ss.take k)/\wr.ownsRow (w.heap.size+1) 9 1 v k (os.map Value.string)/\Below (w.heap.size+1) WA wr) (λv _=>ss.length-lenOf v)
 case atStart=>exact⟨0,[],none,0,Qt _,rfl,rfl,by intro j hj;omega,by simp[dat],by simp[tot],World.ownsRow_nil _ _ _ _,Below.refl _ _⟩
 case round=>
  obtain⟨k,os,a,cp,hk,rfl,hol,hall,hdat,hto,hown,hbel⟩:=hrel;have hsz:=hbel.size;have hsA':=gy.out;have hBw:w.heap.size+1<=wr.heap.size:=by omega
  have dh:=hid hbel;have jh:=hid hall;have hownH:=hid hown;have jg:=hid hdat;have dx:=hid hol;clear hsz hsA' hbel hall hown hdat hol;by_cases hlt:k<ss.length
  ·obtain⟨s,hs⟩:∃s,ss[k]?=some s:=⟨ss[k],Qg hlt⟩;have hcell:wr.cell? ⟨b,o+k,none⟩=some (.string s):=(dh.out.cell (p:=⟨b,o+k,none⟩) (by show b<_;omega)).trans (jy.out.1 k s hs);have hsm:s.size<=maxLen:=by have:=zdg _ _ s hs;unfold maxLen;omega
   have hg:(dat ss)[k]?=some s.data.toList:=by rw[zd0,hs];rfl
   cases hq:S.zat s.data.toList
   ·have hk1:1<=k:=by
     rcases Nat.eq_zero_or_pos k with h|h
     ·subst h;have:=kg.out;rw[hg,Option.map_some,hq] at this;simp at this
     ·exact h
    have hQ:Hid (S.zae (dat ss)=dat os):=hid (by
     rw[zj5 ss k jh.out,jg.out];obtain⟨hlt2,hx⟩:=Qb.1 hg;rw[Qm hlt2,hx];simp[S.zae,hq])
    obtain⟨g,cur,ha,hgb,kr,hkc,gq⟩:∃g cur,a=some ⟨g,0,none⟩/\w.heap.size+1<=g/\wr.heap[g]?=some (.cells cur 9 (0,0))/\k<=cp/\cur.toList.take k=os.map Value.string:=by
     rcases hownH.out.2 with ⟨h1,h2⟩|⟨g,cap2,cur,h1,h2,h3,h4,h5,h6,h7⟩
     ·omega
     ·cases h1;exact⟨g,cur,rfl,h2,h3,h4,by simpa using h7⟩
    subst ha;have dw:RowS wr g 0 os:=by
     refine⟨λi s hi=>?_,Qj hto (Qj (Qj (zpe ss k) (Qc _)) htot)⟩;have hc:cur[i]?=some (.string s):=by
      have h1:(os.map Value.string)[i]?=some (.string s):=(by rw[List.getElem?_map,hi];rfl);rw[<-gq] at h1;have hik:i<k:=(by have:=(Qb.1 h1).1;rw[Ql] at this;omega);rw[Qbe hik] at h1;simpa using h1
     rw[Nat.zero_add];exact za0 kr i _ hc
    have hgl:g<wr.heap.size:=(by have:=hownH.out.lt g rfl;exact this.2);have hRR:=qj.out g 0 cp os wr (by rw[dx.out];exact hkc) hgl dw (jk.out.below (dh.out.mono (by have:=gy.out;omega))) (by rw[hQ.out.symm];exact qh.out);rw[hQ.out.symm,dx.out] at hRR;have jq:=hid hRR;clear hRR dw hgl kr gq;have qb:Hid (∀wx,Calls prog 119 #[.string s] wx λe w'=>e=.returned (.bool false)/\wx=w'):=hid (λwx=>(zds s wx hsm).mono (λe w' ⟨h1,h2⟩=>⟨by rw[h1,hq],h2.symm⟩));clear hg hs hq;go_wp2_with (go_at_call 119;refine(qb.out _).mono ?_;rintro e w'⟨rfl,rfl⟩)
    refine jq.out.mono ?_;rintro e w2⟨kv,rfl,hrep,hb2⟩;obtain⟨ka,kn,kc,rfl⟩:=hrep.form;have bg:=dh.out.trans (hb2.mono hBw);have hk1:=bg.block w.heap.size (by omega);rw[jw.out] at hk1;have mq:w.heap.size<w2.heap.size:=(by have:=bg.size;have:=gy.out;omega);have fq:=hid bg;have pq:=hid hk1;have jd:=hid hrep;have pz:=hid hb2;have d0:=za0 hk1 0 _ rfl;have d1:=za0 hk1 1 _ rfl;have d2:=za0 hk1 2 _ rfl;have d3:=za0 hk1 3 _ rfl;have d4:=za0 hk1 4 _ rfl;have d5:=za0 hk1 5 _ rfl;have d6:=za0 hk1 6 _ rfl;have d7:=za0 hk1 7 _ rfl;have g0:=za7 hk1;clear hk1 bg hrep hb2;go_wp2;refine bodyPost_ret (v:=.tuple #[.agg #[.int .i64 5,.int .i64 0,.slice none 0 0,.int .i64 0,.string ⟨#[]⟩,.string ⟨#[]⟩,.bool false,.slice ka kn kc],.int .i64 (k:Int)]) (by simp[results,results120,go_sem,d0,d1,d2,d3,d4,d5,d6,d7]) rfl ⟨.slice ka kn kc,?_,?_,?_⟩
    ·rw[hQ.out,zai,dx.out];rfl
    ·refine jd.out.move (λx hx=>⟨by omega,by rw[zl6];exact hx.2⟩) (λx hx=>ziz _ _ _ _ _ _ _ _ x (by omega))
    ·repeat (refine Below.setCell ?_ (by simp) _)
     exact mh.trans (fq.out.mono (by omega))
   ·have lg:Hid (∀j,j<k+1->((dat ss)[j]?.map S.zat)=some true):=by
     intro j hj;by_cases e:j=k
     ·subst e;rw[hg,Option.map_some,hq]
     ·exact jh.out j (by omega)
    have hsh:S.shallow s.data.toList≠[]:=(by intro h;unfold S.zat at hq;rw[h] at hq;simp[Lib.hasPrefix] at hq);have qx:Hid (∀wx,Calls prog 177 #[.string s] wx λe w'=>∃r:ByteArray,e=.returned (.string r)/\Hid (r.data.toList=S.zcv s.data.toList)/\r.size<=s.size/\wx=w'):=hid (λwx=>(zrh s wx hsm hsh).mono (λe w' ⟨r,h1,h2,h3,h4⟩=>⟨r,h1,h2,h3,h4.symm⟩));have qb:Hid (∀wx,Calls prog 119 #[.string s] wx λe w'=>e=.returned (.bool true)/\wx=w'):=hid (λwx=>(zds s wx hsm).mono (λe w' ⟨h1,h2⟩=>⟨by rw[h1,hq],h2.symm⟩));have qp:=hid hg;have qm:=hid hs;clear hsh hg hs;have htk:Hid (tot (ss.take (k+1))=tot (ss.take k)+(s.size+1)):=hid (by
     rw[List.take_add_one,qm.out];simp[tot])
    have hown2:=hid (λob=>hownH.out.alloc ob);go_wp2_with (go_at_call 119;refine(qb.out _).mono ?_;rintro e w'⟨rfl,rfl⟩)
    refine(qx.out _).mono ?_;rintro e w'⟨r,rfl,hr,hrl,rfl⟩;have hnew:Hid (∀j u,([Value.string r]:List Value)[j]?=some u->(wr.alloc (.cells #[.string r] 9)).cell? ((⟨wr.heap.size,0,none⟩:Addr).add j)=some u):=hid (by
     intro j u hj;have hj0:j=0:=(by have:=(Qb.1 hj).1;simpa using this);subst hj0;simp at hj;subst hj;exact za0 (za1 _ _) 0 _ rfl)
    go_wp2_with (at_builtin;refine wpList_append_lies _ (by rfl) _ _ 32 (by rfl) (w.heap.size+1) 9 i0 (.string ⟨#[]⟩) 1 16 underlying32 hi hz0 hz1 hz2 (by rfl) (by omega) (.slice a k cp) k (os.map Value.string) (by rfl) (hown2.out _) ⟨wr.heap.size,0,none⟩ 1 1 [.string r] (by rfl) (by rfl) hnew.out (by intro u hu;simp at hu;subst hu;rfl) (by omega) (by unfold maxLen;omega) (by omega) (by simp;omega) (wr.heap.size+1) (by simp) ?_)
    intro g qg w1 hown1 hgrow hat ng;have jl:=hid hown1;have jm:=hid hgrow;have ny:=hid hownH.out.lt;clear hown1 hgrow hat ng;go_wp2;go_roundw
    case rel=>
     refine⟨k+1,os++[r],some ⟨g,0,none⟩,qg,by omega,rfl,by rw[Qa,dx.out];rfl,lg.out,?_,?_,?_,?_⟩
     ·rw[List.take_add_one,qp.out];have h1:dat (os++[r])=dat os++[r.data.toList]:=(by simp[dat]);rw[h1,jg.out,hr.out];simp
     ·rw[htk.out];have h1:tot (os++[r])=tot os+(r.size+1):=(by simp[tot]);omega
     ·have:=jl.out;rw[Qv];exact this
     ·refine Below.grown (dh.out.alloc hBw _) jm.out (by simp;omega) (λq hqq=>(ny.out q hqq).1)
    case measure=>simp[lenOf];omega
  ·have hkl:k=ss.length:=by omega
   have hk1:1<=k:=by
    rcases Nat.eq_zero_or_pos ss.length with h|h
    ·have:=kg.out;rw[Qr (by rw[zai];omega)] at this;simp at this
    ·omega
   have hQ:Hid (S.zae (dat ss)=dat os):=hid (by
    rw[zj5 ss k jh.out,jg.out,Qw (by rw[zai];omega)];simp[S.zae])
   obtain⟨g,cur,ha,hgb,kr,hkc,gq⟩:∃g cur,a=some ⟨g,0,none⟩/\w.heap.size+1<=g/\wr.heap[g]?=some (.cells cur 9 (0,0))/\k<=cp/\cur.toList.take k=os.map Value.string:=by
    rcases hownH.out.2 with ⟨h1,h2⟩|⟨g,cap2,cur,h1,h2,h3,h4,h5,h6,h7⟩
    ·omega
    ·cases h1;exact⟨g,cur,rfl,h2,h3,h4,by simpa using h7⟩
   subst ha;have dw:RowS wr g 0 os:=by
    refine⟨λi s hi=>?_,Qj hto (Qj (Qj (zpe ss k) (Qc _)) htot)⟩;have hc:cur[i]?=some (.string s):=by
     have h1:(os.map Value.string)[i]?=some (.string s):=(by rw[List.getElem?_map,hi];rfl);rw[<-gq] at h1;have hik:i<k:=(by have:=(Qb.1 h1).1;rw[Ql] at this;omega);rw[Qbe hik] at h1;simpa using h1
    rw[Nat.zero_add];exact za0 kr i _ hc
   have hgl:g<wr.heap.size:=by have:=hownH.out.lt g rfl;exact this.2
   have hRR:=qj.out g 0 cp os wr (by rw[dx.out];exact hkc) hgl dw (jk.out.below (dh.out.mono (by have:=gy.out;omega))) (by rw[hQ.out.symm];exact qh.out);rw[hQ.out.symm,dx.out] at hRR;have jq:=hid hRR;clear hRR dw hgl kr gq;clear hkl;go_wp2_with (fail);refine jq.out.mono ?_;rintro e w2⟨kv,rfl,hrep,hb2⟩;obtain⟨ka,kn,kc,rfl⟩:=hrep.form;have bg:=dh.out.trans (hb2.mono hBw);have hk1:=bg.block w.heap.size (by omega);rw[jw.out] at hk1;have mq:w.heap.size<w2.heap.size:=by have:=bg.size;have:=gy.out;omega
   have fq:=hid bg;have pq:=hid hk1;have jd:=hid hrep;have pz:=hid hb2;have d0:=za0 hk1 0 _ rfl;have d1:=za0 hk1 1 _ rfl;have d2:=za0 hk1 2 _ rfl;have d3:=za0 hk1 3 _ rfl;have d4:=za0 hk1 4 _ rfl;have d5:=za0 hk1 5 _ rfl;have d6:=za0 hk1 6 _ rfl;have d7:=za0 hk1 7 _ rfl;have g0:=za7 hk1;clear hk1 bg hrep hb2;go_wp2;refine bodyPost_ret (v:=.tuple #[.agg #[.int .i64 5,.int .i64 0,.slice none 0 0,.int .i64 0,.string ⟨#[]⟩,.string ⟨#[]⟩,.bool false,.slice ka kn kc],.int .i64 (k:Int)]) (by simp[results,results120,go_sem,d0,d1,d2,d3,d4,d5,d6,d7]) rfl ⟨.slice ka kn kc,?_,?_,?_⟩
   ·rw[hQ.out,zai,dx.out];rfl
   ·refine jd.out.move (λx hx=>⟨by omega,by rw[zl6];exact hx.2⟩) (λx hx=>ziz _ _ _ _ _ _ _ _ x (by omega))
   ·repeat (refine Below.setCell ?_ (by simp) _)
    exact mh.trans (fq.out.mono (by omega))
end Go.Proofs.YtlojgpkajkedeaaGreatDoor
