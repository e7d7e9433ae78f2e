import Derived.Test.YtlojgpkajkedeaaGreatDoorNVB
import Derived.Test.YtlojgpkajkedeaaGreatDoorNPI
import Derived.Test.YtlojgpkajkedeaaGreatDoorNPV
import Derived.Test.YtlojgpkajkedeaaGreatDoorNTT
import Derived.Maps.AppendAt
import Derived.Deep.AppendLies
import Derived.Laws.AppendOwnNone
set_option maxHeartbeats 16000000
set_option maxRecDepth 100000
namespace Go.Proofs.YtlojgpkajkedeaaGreatDoor
open Go.RowKit Go.Proofs.Tryz
mutual
def tiR:Rn->List Tl
 | .nd k n _ _ l ks=>(if k=2 then [⟨n,rPls ks,l⟩] else [])++tiRs ks
def tiRs:List Rn->List Tl
 | []=>[]
 | n::r=>tiR n++tiRs r
end
theorem zs4 (a b:List Rn):tiRs (a++b)=tiRs a++tiRs b:=by
 induction a with
 | nil=>simp[tiRs]
 | cons x r ih=>simp only[List.cons_append,tiRs,ih,Qp]
theorem zz7 (l:List Rn)(k:Nat)(t:Rn)(h:l[k]?=some t):tiRs (l.take (k+1))=tiRs (l.take k)++tiR t:=by
 rw[List.take_add_one,h,zs4];simp[tiRs]
mutual
theorem z4v (n:Rn):(tiR n).length<=byR n:=by
 cases n with
 | nd k n i t l ks=>
  have:=zto ks;simp only[tiR,byR,Qa];split
  ·simp;omega
  ·simp;omega
theorem zto (l:List Rn):(tiRs l).length<=byRs l:=by
 cases l with
 | nil=>simp[tiRs]
 | cons x r=>
  have h1:=z4v x;have h2:=zto r;simp only[tiRs,byRs,Qa];omega
end
theorem zna (a b:List Tl):zao (a++b)=zao a++zao b:=by simp[zao]
theorem ztn (l:List Tl):∀u∈zao l,u.oneCell'=true:=by
 intro u hu;simp only[zao,List.mem_flatten,List.mem_map] at hu;obtain⟨c,⟨x,_,rfl⟩,hu⟩:=hu;simp[three] at hu;rcases hu with rfl|rfl|rfl<;>rfl
theorem zrv (A:Nat->Prop)(w0:World)(hA:∀x,A x->x<w0.heap.size)(v:Value)(ns:List Rn)(h:RepN w0 A v ns):∀(w:World),Below w0.heap.size w0 w->byRs ns<=1000000 ->
  Calls prog 70 #[v] w λe w'=>∃a cp,e=.returned (.slice a (tiRs ns).length cp)/\zct w.heap.size a cp (tiRs ns) w'/\Below w.heap.size w w':=by
 obtain⟨i0,hi,hz0,hz1,hz2⟩:=info_parts Tryz.zm5;induction h with
 | nil=>
  intro w hb hd;clear hb hd;go_enter func70,ntmps70;go_wp2;refine wp_loop_rounds 1 ?_;rw[rounds_succ];go_wp2;go_ret;exact⟨none,0,rfl,World.ownsRow_nil _ _ _ _,Below.refl _ _⟩
 | some b o cap ns kv ha hcap hc hkk ih=>
  intro w hb hd;have hb0:=hA b ha;have hbs:=hb.size;have hbw:b<w.heap.size:=Qh hb0 hbs;have hnl:=zol ns;have hlen:ns.length<=1000000:=by omega
  have yg:=hid hc;have qh:=hid hkk;have xq:=hid ih;have lq:=hid hb;have yt:=hid hA;have qm:=hid hd;clear hc hkk ih hb hA ha;go_enter func70,ntmps70;go_wp2;go_loopw [3,4] (λov iv wr=>∃(k n':Nat) (a:Option Addr) (cp:Nat),k<=ns.length/\iv=.int .i64 k/\ov=.slice a n' cp/\Hid (n'=(tiRs (ns.take k)).length/\zct w.heap.size a cp (tiRs (ns.take k)) wr/\Below w.heap.size w wr)) (λ_ iv _=>ns.length-(intOf iv).toNat)
  case atStart=>exact⟨0,0,none,0,Qt _,rfl,rfl,hid ⟨by simp[tiRs],by simp only[List.take_zero,tiRs];exact World.ownsRow_nil _ _ _ _,Below.refl _ _⟩⟩
  case round=>
   obtain⟨k,n',a,cp,hk,rfl,rfl,hr⟩:=hrel;by_cases hlt:k<ns.length
   ·obtain⟨t,ht⟩:∃t,ns[k]?=some t:=⟨ns[k],Qg hlt⟩;have hct:=yg.out k t ht;have dw:=qh.out k t ht;have ihk:=xq.out k t ht;have hfl:=zz7 ns k t ht;have hgt:=zoz ns k t ht;have hle:=zto (ns.take (k+1));have htk:=zlo ns (k+1);obtain⟨ka,kn,kc,hkv⟩:=dw.form;rw[hkv] at hct ihk dw;obtain⟨L,hL⟩:=Qyy (tiRs (ns.take k));rw[hL] at hr hfl;obtain⟨hn',mq,hbr⟩:=hr.out;subst hn';cases t with
    | nd kd n inf tx li ks=>
    simp only[tiR] at hfl;simp only[byR] at hgt;simp only[Rn.kids] at ihk dw;have hwr:w.heap.size<=wr.heap.size:=hbr.size;have yh:Below w0.heap.size w0 wr:=lq.out.trans (hbr.mono hbs);have hcell:∀j u,(rn7 (.nd kd n inf tx li ks) (.slice ka kn kc))[j]?=some u->w0.cell? ⟨b,o+k*7+j,none⟩=some u:=hct;have hkeep:Hid (∀w1,Below w.heap.size w w1->w1.cell? ⟨b,o+k*7+2,none⟩=some (.int .i64 n)/\w1.cell? ⟨b,o+k*7+6,none⟩=some (.slice ka kn kc)/\w1.cell? ⟨b,o+k*7+5,none⟩=some (.int .i64 li)):=hid (λw1 h1=>
     have hx:∀j,w1.cell? ⟨b,o+k*7+j,none⟩=w0.cell? ⟨b,o+k*7+j,none⟩:=λj=>(h1.cell (p:=⟨b,o+k*7+j,none⟩) hbw).trans (lq.out.cell (p:=⟨b,o+k*7+j,none⟩) hb0);⟨(hx 2).trans (hcell 2 _ rfl),(hx 6).trans (hcell 6 _ rfl),(hx 5).trans (hcell 5 _ rfl)⟩)
    have c1:wr.cell? ⟨b,o+k*7+1,none⟩=some (.int .i64 kd):=(hbr.cell (p:=⟨b,o+k*7+1,none⟩) hbw).trans ((lq.out.cell (p:=⟨b,o+k*7+1,none⟩) hb0).trans (hcell 1 _ rfl));have zl:(k:Int)<(ns.length:Int):=(by omega);have hJ0:(0:Int)<=(k:Int):=(by omega);obtain⟨H,hH⟩:=Qyy ((if kd=2 then [(⟨n,rPls ks,li⟩:Tl)] else []))
    rw[hH] at hfl;have vg:Hid (∀wx:World,Below w.heap.size w wx->Calls prog 101 #[.slice ka kn kc] wx λe w'=>e=.returned (.string (S.B (rPls ks)))/\w'=wx):=hid (λwx hbx=>znp _ wx _ ks (dw.move (λx hx=>hx) (λx hx=>(lq.out.trans (hbx.mono hbs)).block x (yt.out x hx))) (by have:=qm.out;omega));have qp:Hid (byRs ks<=byRs ns):=hid (by omega);have qj:=hid hfl;have jk:=hid mq;have gy:=hid hbr;have vk:Hid ((L++H++tiRs ks).length<=1000000):=hid (by rw[Qp,<-hfl];have:=qm.out;omega);have ng:=hid ihk;have xg:=hid hH;clear hct dw ihk hkv hcell hL ht hfl hgt hle htk hr mq hbr hH;obtain⟨bv,hbv⟩:=Qyy ((kd == 2));have kr:=hid hbv;go_upto_if 17 with fail
    clear hbv c1;go_cut [3] (λv wx=>∃(n1:Nat) (a1:Option Addr) (jh:Nat),v=.slice a1 n1 jh/\Hid (n1=(L++H).length/\zct w.heap.size a1 jh (L++H) wx/\Below w.heap.size w wx))
    case first=>
     cases bv
     ·have hE:Hid (H=[]):=hid (by rw[<-xg.out,if_neg (by have:=kr.out;simpa using this)]);go_wp2;go_meet;exact⟨L.length,a,cp,rfl,hid ⟨by rw[hE.out,Qbk],by rw[hE.out,Qbk];exact jk.out,gy.out⟩⟩
     ·have hE:Hid (H=[⟨n,rPls ks,li⟩]):=hid (by rw[<-xg.out,if_pos (by have:=kr.out;simpa using this)]);obtain⟨pB,pq⟩:=Qyy (S.B (rPls ks));rw[pq] at vg;have hcs:=hkeep.out wr gy.out;have c2:=hcs.1;have c6:=hcs.2.1;have c5:=hcs.2.2;have zh:L.length+1<=1000000:=(by have:=vk.out;rw[hE.out] at this;simp only[Qa,List.length_singleton] at this;omega);have hkd:=hkeep.out _ gy.out.drew;have hka:Hid (∀ob,(wr.alloc ob).drew.cell? ⟨b,o+k*7+2,none⟩=some (.int .i64 n)/\(wr.alloc ob).drew.cell? ⟨b,o+k*7+6,none⟩=some (.slice ka kn kc)/\(wr.alloc ob).drew.cell? ⟨b,o+k*7+5,none⟩=some (.int .i64 li)):=hid (λob=>hkeep.out _ (gy.out.alloc hwr ob).drew);have hown2:Hid (∀ob,(wr.alloc ob).drew.ownsRow w.heap.size 71 3 (.slice a L.length cp) L.length (zao L)):=hid (λob=>(show wr.ownsRow w.heap.size 71 3 (.slice a L.length cp) L.length (zao L) from jk.out).kept (Below.zfn ((Below.refl wr.heap.size wr).alloc (Qc _) ob).drew) (by
       cases h:(Value.slice a L.length cp).ownBlock with
       | none=>exact .inl rfl
       | some g=>exact .inr (by simp)))
      have hnew:Hid (∀i v,([Value.int .i64 n,.string pB,.int .i64 li]:List Value)[i]?=some v->(wr.alloc (.cells #[.int .i64 n,.string pB,.int .i64 li] 71)).drew.cell? ((⟨wr.heap.size,0,none⟩:Addr).add i)=some v):=hid (λi v hi=>World.news_of_block (za1 wr _) i v (by exact hi));have hone:Hid (∀v∈([Value.int .i64 n,.string pB,.int .i64 li]:List Value),v.oneCell'=true):=hid (by
       intro v hv;simp at hv;rcases hv with rfl|rfl|rfl<;>rfl)
      have qg:Hid (∀g,(Value.slice a L.length cp).ownBlock=some g->w.heap.size<=g):=hid (λg hg=>(World.ownsRow.lt jk.out g hg).1);have hstep:Hid (∀ob g jd w1,w1.ownsRow w.heap.size 71 3 (.slice (some ⟨g,0,none⟩) (L.length+1) jd) (L.length+1) (zao L++[.int .i64 n,.string pB,.int .i64 li])->(wr.alloc ob).drew.grownBy w1 (Value.slice a L.length cp).ownBlock->zct w.heap.size (some ⟨g,0,none⟩) jd (L++H) w1/\Below w.heap.size w w1):=hid (λob g jd w1 ho hgw=>by
       refine⟨?_,Below.grown (gy.out.alloc hwr ob).drew hgw (by simp;omega) (λq hq=>qg.out q hq)⟩;rw[hE.out];unfold zct;rw[zkj,Qa];unfold three;rw[pq];exact ho)
      have tq:Hid (∀wx:World,Below w.heap.size w wx->Calls prog 101 #[.slice ka kn kc] wx λe w'=>e=.returned (.string pB)/\w'=wx):=hid (λwx hx=>vg.out wx hx);have hbd:Hid (Below w.heap.size w wr.drew):=hid gy.out.drew;have yj:Hid ((L++H).length=L.length+1):=hid (by rw[hE.out,Qa];rfl);clear hcs pq vg;go_upto_region 6 with fail
      go_region_held3 (λw'=>w'.cell? ⟨b,o+k*7+2,none⟩=some (.int .i64 n)/\w'.cell? ⟨b,o+k*7+6,none⟩=some (.slice ka kn kc)/\w'.cell? ⟨b,o+k*7+5,none⟩=some (.int .i64 li))
       (with_reducible first|exact⟨c2,c6,c5⟩|exact hkd|exact hka.out _|exact hk1)
       ((first|(go_at_call 101;refine(tq.out _ hbd.out).mono ?_;rintro e w'⟨rfl,rfl⟩)|(refine step_append_lies _ (by rfl) _ _ 65 (by rfl) w.heap.size 71 i0 (.agg #[.int .i64 0,.string ⟨#[]⟩,.int .i64 0]) 3 32 underlying65 hi hz0 hz1 hz2 (by rfl) (by omega) (.slice a L.length cp) L.length (zao L) (by rfl) (hown2.out _) ⟨wr.heap.size,0,none⟩ 1 1 [.int .i64 n,.string pB,.int .i64 li] (by rfl) (by rfl) hnew.out hone.out (by omega) (by unfold maxLen;omega) (by omega) (by simp;omega) (wr.heap.size+1) (by simp) ?_;intro g jd w1 hown1 hgrow hat pz;have qz:=hid (hstep.out _ g jd w1 hown1 hgrow);have hk1:=hkeep.out w1 qz.out.2;clear hown1 hgrow hat pz)))
      clear hk1;go_wp2;go_meet;exact⟨L.length+1,some ⟨g,0,none⟩,jd,rfl,hid ⟨yj.out.symm,qz.out.1,qz.out.2⟩⟩
    case rest=>
     obtain⟨n1,a1,jh,rfl,hcut⟩:=hcut;obtain⟨M,hM⟩:=Qyy (L++H);rw[hM] at hcut vk;obtain⟨hn1,jg,lg⟩:=hcut.out;subst hn1;have yc:w.heap.size<=wc.heap.size:=lg.size;have c6:=(hkeep.out wc lg).2.1;have vw:=ng.out wc (lq.out.trans (lg.mono hbs)) (by have:=qm.out;have:=qp.out;omega);obtain⟨K,hK⟩:=Qyy (tiRs ks);rw[hK] at vw;have hfin:Hid (tiRs (ns.take (k+1))=M++K):=hid (by rw[qj.out,<-hM,hK,Qp]);have zk:M.length+K.length<=1000000:=(by have:=vk.out;rw[hK,Qa] at this;exact this);have vv:=hid vw;have jl:=hid jg;have qx:=hid lg;clear vw hK hM jg lg hcut;go_wp2_with (fail);refine vv.out.mono ?_;rintro e w5⟨a5,wm,rfl,hown5,hb5⟩;have yx:wc.heap.size<=w5.heap.size:=hb5.size;have bg:Hid (w5.ownsRow w.heap.size 71 3 (.slice a1 M.length jh) M.length (zao M)):=hid (zct.below jl.out hb5);have jm:Hid (Below w.heap.size w w5):=hid (qx.out.trans (hb5.mono yc));by_cases hK0:K=[]
     ·subst hK0;have qy:(a5=none/\wm=0)\/∃g5,a5=some ⟨g5,0,none⟩:=by
       rcases hown5.2 with ⟨h1,_⟩|⟨g5,cap5,wh,h1,_⟩
       ·injection h1 with e1 e2 e3;exact .inl ⟨e1,e3⟩
       ·injection h1 with e1;exact .inr ⟨g5,e1⟩
      rw[Qi];have gq:Hid (tiRs (ns.take (k+1))=M):=hid (by rw[hfin.out,Qbk]);rcases qy with ⟨rfl,rfl⟩|⟨g5,rfl⟩
      ·clear hown5 hb5;go_wp2_with (at_builtin;refine wpList_append_own_none (by rfl) _ _ 65 (by rfl) w.heap.size 71 i0 3 underlying65 hi (.slice a1 M.length jh) M.length (zao M) (by rfl) bg.out (by rfl) ?_)
       go_roundw
       case rel=>exact⟨k+1,M.length,a1,jh,by omega,by go_num,rfl,hid ⟨by rw[gq.out],by rw[gq.out];exact bg.out,jm.out⟩⟩
       case measure=>simp[intOf];omega
      ·clear hown5 hb5;go_wp2_with (at_builtin;refine wpList_append_own_at _ (by rfl) _ _ 65 (by rfl) w.heap.size 71 i0 (.agg #[.int .i64 0,.string ⟨#[]⟩,.int .i64 0]) 3 32 underlying65 hi hz0 hz1 hz2 (by rfl) (by omega) (.slice a1 M.length jh) M.length (zao M) (by rfl) bg.out ⟨g5,0,none⟩ 0 wm [] (by rfl) (by rfl) (λj u h=>by simp at h) (λu h=>by simp at h) (by unfold maxLen;omega) (by omega) (by omega) ?_)
       intro v6 w6 hown6 dh jy jq;have fq:w6.ownsRow w.heap.size 71 3 v6 M.length (zao M):=(by simpa using hown6);have hv6:∃a6 cap6,v6=.slice a6 M.length cap6:=by
        rcases fq.2 with ⟨h1,h2⟩|⟨g6,cap6,yw,h1,_⟩
        ·exact⟨none,0,by rw[h1,h2]⟩
        ·exact⟨_,cap6,h1⟩
       obtain⟨a6,cap6,rfl⟩:=hv6;have hb6:Hid (Below w.heap.size w w6):=hid (Below.grown jm.out dh (by omega) (λq hq=>(bg.out.lt q hq).1));have dx:=hid fq;clear hown6 fq dh jy jq;go_wp2;go_roundw
       case rel=>exact⟨k+1,M.length,a6,cap6,by omega,by go_num,rfl,hid ⟨by rw[gq.out],by rw[gq.out];exact dx.out,hb6.out⟩⟩
       case measure=>simp[intOf];omega
     ·have mh:0<K.length:=Qbf.2 hK0;have qy:∃g5,a5=some ⟨g5,0,none⟩:=by
       rcases hown5.2 with ⟨_,h2⟩|⟨g5,cap5,wh,h1,_⟩
       ·omega
       ·injection h1 with e1;exact⟨g5,e1⟩
      obtain⟨g5,rfl⟩:=qy;have hnews:Hid (∀j u,(zao K)[j]?=some u->w5.cell? ((⟨g5,0,none⟩:Addr).add j)=some u):=hid (λj u hu=>World.ownsRow.cells hown5 (g:=g5) rfl j u hu);have kg:(zao K).length=K.length*3:=hown5.1;have jw:Hid (∀u∈zao K,u.oneCell'=true):=hid (ztn K);clear hown5 hb5;go_wp2_with (at_builtin;refine wpList_append_lies _ (by rfl) _ _ 65 (by rfl) w.heap.size 71 i0 (.agg #[.int .i64 0,.string ⟨#[]⟩,.int .i64 0]) 3 32 underlying65 hi hz0 hz1 hz2 (by rfl) (by omega) (.slice a1 M.length jh) M.length (zao M) (by rfl) bg.out ⟨g5,0,none⟩ K.length wm (zao K) (by rfl) kg hnews.out jw.out mh (by unfold maxLen;omega) (by omega) (by omega) w5.heap.size rfl ?_)
      intro g6 cap6 w6 hown6 dh jq qb;have hb6:Hid (Below w.heap.size w w6):=hid (Below.grown jm.out dh (by omega) (λq hq=>(bg.out.lt q hq).1));have dx:=hid hown6;clear hown6 dh jq qb;go_wp2;go_roundw
      case rel=>exact⟨k+1,M.length+K.length,some ⟨g6,0,none⟩,cap6,by omega,by go_num,rfl,hid ⟨by rw[hfin.out,Qa],by
       rw[hfin.out];unfold zct;rw[zna,Qa];exact dx.out,hb6.out⟩⟩
      case measure=>simp[intOf];omega
   ·have hkl:k=ns.length:=(by omega);subst hkl;rw[Qbl] at hr;obtain⟨hn',mq,hbr⟩:=hr.out;have ny:=hid hr.out;clear hr mq hbr;go_wp2;go_ret;exact⟨a,cp,by rw[<-ny.out.1];rfl,ny.out.2.1,ny.out.2.2⟩
mutual
theorem z2y:∀p:Pt,kdP p->tiR (toRn p)=[]
 | .mk k i t kids _ _ _=>by
  intro h;simp only[kdP] at h;simp only[toRn,tiR];rw[if_neg (by omega),zpc kids h.2.2.2];rfl
theorem zpc:∀l:List Pt,kdPs l->tiRs (zda l)=[]
 | []=>λ_=>by simp only[zda,tiRs]
 | p::r=>by
  intro h;simp only[kdPs] at h;simp only[zda,tiRs];rw[z2y p h.1,zpc r h.2];rfl
end
mutual
theorem z4m:∀(b:S.Blk) (z:Int) (n:Rn),MatB CT z b n->okB b->tiR n=titB z b
 | .at_ li k m i t lo ks=>by
  intro z n h ho;cases n with
  | nd k' m' i' t' l' ks'=>
   simp only[MatB] at h;simp only[okB] at ho;obtain⟨rfl,rfl,rfl,rfl,rfl,h⟩:=h;obtain⟨h1,h2,h3,h4,h5,h6,h7,h8,h9⟩:=ho;simp only[tiR,titB];by_cases hk:k'=1\/k'=2
   ·rw[if_pos hk] at h;rw[h,zpc _ (zob t),zl4,h3 (by omega)];simp only[titL]
   ·rw[if_neg hk] at h;rw[if_neg (λe=>hk (.inr e)),if_neg (λe=>hk (.inr e))];by_cases h6':k'=6
    ·rw[zza ks _ ks' h (h9 h6')]
    ·rw[zpi ks _ ks' h (h8 (by omega))]
theorem zpi:∀(bs:List S.Blk) (z:Int) (ns:List Rn),MatL CT z bs ns->okBL bs->tiRs ns=titL z bs
 | []=>by
  intro z ns h _;cases ns with
  | nil=>simp only[tiRs,titL]
  | cons n s=>simp only[MatL] at h
 | b::r=>by
  intro z ns h ho;cases ns with
  | nil=>simp only[MatL] at h
  | cons n s=>
   simp only[MatL] at h;simp only[okBL] at ho;simp only[tiRs,titL];rw[z4m b z n h.1 ho.1,zpi r z s h.2 ho.2]
theorem zza:∀(bs:List S.Blk) (z:Int) (ns:List Rn),MatL CT z bs ns->okIL bs->tiRs ns=titL z bs
 | []=>by
  intro z ns h _;cases ns with
  | nil=>simp only[tiRs,titL]
  | cons n s=>simp only[MatL] at h
 | b::r=>by
  intro z ns h ho;cases ns with
  | nil=>simp only[MatL] at h
  | cons n s=>
   simp only[MatL] at h;simp only[okIL] at ho;simp only[tiRs,titL];rw[z4s b z n h.1 ho.1,zza r z s h.2 ho.2]
theorem z4s:∀(b:S.Blk) (z:Int) (n:Rn),MatB CT z b n->okI b->tiR n=titB z b
 | .at_ li k m i t lo ks=>by
  intro z n h ho;cases n with
  | nd k' m' i' t' l' ks'=>
   simp only[MatB] at h;simp only[okI] at ho;obtain⟨rfl,rfl,rfl,rfl,rfl,h⟩:=h;obtain⟨rfl,rfl,h3⟩:=ho;rw[if_neg (by decide)] at h;simp only[tiR,titB];rw[zpi ks _ ks' h h3];rfl
end
theorem zrs (l:List UInt8)(ns:List Rn)(h:MatL (λs ns=>WTo s [] 0 ns) 0 (S.za2 (l.length+1) (S.lines l)).1 ns):tiRs ns=zcy l:=by
 unfold zcy;exact zpi _ 0 ns (h.mono (λs ns h=>zgz s ns h)) (zjq _ _)
mutual
theorem z0d:∀(b:S.Blk) (z:Int),120*(titB z b).length<=pgB b
 | .at_ li k n i t lo kids=>by
  intro z;have:=zpj kids (z+li);simp only[titB,pgB,Qa];split
  ·simp only[List.length_singleton];omega
  ·simp only[Qi];omega
theorem zpj:∀(l:List S.Blk) (z:Int),120*(titL z l).length<=pgL l
 | []=>by intro z;simp[titL]
 | b::r=>by
  intro z;have h1:=z0d b z;have h2:=zpj r z;simp only[titL,pgL,Qa];omega
end
theorem zni (l:List UInt8)(hl:l.length<=1500):(zcy l).length<=900000:=by
 have h1:=zpj (S.za2 (l.length+1) (S.lines l)).1 0;have h2:=S.zhe l;have h3:=(zfd (l.length+1) (S.lines l) (by omega)).2.1;unfold zcy;omega
theorem zwz (s:ByteArray)(w:World)(hs:s.size<=1500):Calls prog 51 #[.string s] w λe w'=>e=.returned (.tuple #[.string (S.B (zmb s.data.toList)),.int .i64 0])/\Below w.heap.size w w':=by
 have hL:=hid (zny s w (by omega));have hs2:¬(1500:Int)<(s.size:Int):=by omega
 go_enter func51,ntmps51;go_wp2_with fail
 refine hL.out.mono ?_;rintro e w1⟨os,a1,dx,rfl,hdat,hown1,hb1⟩;have hB:=hid (zug s w1 hs os a1 dx w.heap.size hdat.out.1 hdat.out.2 hown1);have dh:=hid hb1;have hz1:w.heap.size<=w1.heap.size:=hb1.size;clear hown1 hb1 hdat;go_wp2_with fail
 refine hB.out.mono ?_;rintro e w2⟨ka,kn,kc,g,ns,rfl,hU⟩;have hz2:w1.heap.size<=w2.heap.size:=hU.out.2.2.size;have hM:MatL (λs ns=>WTo s [] 0 ns) 0 (S.za2 (s.data.toList.length+1) (S.lines s.data.toList)).1 ns:=by rw[S.lda];exact hU.out.2.1
 have hfit:=zwy s.data.toList (by rw[S.lda];exact hs) ns hM;have hF:=zq6 (λx=>x<w2.heap.size) w2 (λx h=>h) _ ns hU.out.1 w2 false (Below.refl _ _) hfit.1 hfit.2;rw[zwf s.data.toList ns hM] at hF;have dw:=hid hF;have hb2:Hid (Below w.heap.size w w2):=hid (dh.out.trans (hU.out.2.2.mono hz1));clear hF hfit hM hU;go_wp2_with fail
 refine dw.out.mono ?_;rintro e w3⟨rfl,hb3⟩;have bg:Hid (Below w.heap.size w w3):=hid (hb2.out.trans (hb3.mono (by omega)));clear hb3;go_wp2;go_ret2;exact⟨rfl,bg.out⟩
theorem ztr (s:ByteArray)(w:World)(hs:s.size<=1500):Calls prog 52 #[.string s] w λe w'=>∃(B:Nat) (a:Option Addr) (cp:Nat),e=.returned (.tuple #[.slice a (zcy s.data.toList).length cp,.int .i64 0])/\Hid ((zcy s.data.toList).length<=900000/\w.heap.size<=B/\zct B a cp (zcy s.data.toList) w'/\Below w.heap.size w w'):=by
 have hL:=hid (zny s w (by omega));have hs2:¬(1500:Int)<(s.size:Int):=by omega
 go_enter func52,ntmps52;go_wp2_with fail
 refine hL.out.mono ?_;rintro e w1⟨os,a1,dx,rfl,hdat,hown1,hb1⟩;have hB:=hid (zug s w1 hs os a1 dx w.heap.size hdat.out.1 hdat.out.2 hown1);have bg:=hid hb1;have hz1:w.heap.size<=w1.heap.size:=hb1.size;clear hown1 hb1 hdat;go_wp2_with fail
 refine hB.out.mono ?_;rintro e w2⟨ka,kn,kc,g,ns,rfl,hU⟩;have hz2:w1.heap.size<=w2.heap.size:=hU.out.2.2.size;have hM:MatL (λs ns=>WTo s [] 0 ns) 0 (S.za2 (s.data.toList.length+1) (S.lines s.data.toList)).1 ns:=by rw[S.lda];exact hU.out.2.1
 have hfit:=zwy s.data.toList (by rw[S.lda];exact hs) ns hM;have hF:=zrv (λx=>x<w2.heap.size) w2 (λx h=>h) _ ns hU.out.1 w2 (Below.refl _ _) (by omega);rw[zrs s.data.toList ns hM] at hF;have hcnt:=zni s.data.toList (by rw[S.lda];exact hs);have dw:=hid hF;have dh:=hid hcnt;have hb2:Hid (Below w.heap.size w w2):=hid (bg.out.trans (hU.out.2.2.mono hz1));clear hF hfit hM hU hcnt;go_wp2_with fail
 refine dw.out.mono ?_;rintro e w3⟨a,cp,rfl,hown3,hb3⟩;have hfin:Hid ((zcy s.data.toList).length<=900000/\w.heap.size<=w2.heap.size/\zct w2.heap.size a cp (zcy s.data.toList) w3/\Below w.heap.size w w3):=hid ⟨dh.out,by omega,hown3,hb2.out.trans (hb3.mono (by omega))⟩;clear hb3 hown3;go_wp2;go_ret2;exact⟨w2.heap.size,a,cp,rfl,hfin⟩
theorem zvh (s:ByteArray)(w:World)(hs:1500<s.size):Calls prog 51 #[.string s] w λe w'=>e=.returned (.tuple #[.string ⟨#[]⟩,.int .i64 1])/\w=w':=by
 have hs2:(1500:Int)<(s.size:Int):=by omega
 go_enter func51,ntmps51;go_wp2;go_ret2;exact⟨rfl,rfl⟩
theorem zq0 (s:ByteArray)(w:World)(hs:1500<s.size):Calls prog 52 #[.string s] w λe w'=>e=.returned (.tuple #[.slice none 0 0,.int .i64 1])/\w=w':=by
 have hs2:(1500:Int)<(s.size:Int):=by omega
 go_enter func52,ntmps52;go_wp2;go_ret2;exact⟨rfl,rfl⟩
theorem zqc (s:ByteArray)(w:World)(hs:1500<s.size):Calls prog 39 #[.string s] w λe w'=>e=.returned (.tuple #[.slice none 0 0,.int .i64 1])/\w=w':=by
 have hs2:(1500:Int)<(s.size:Int):=by omega
 go_enter func39,ntmps39;go_wp2;go_ret2;exact⟨rfl,rfl⟩
theorem ziv (B1 B2:Nat)(a1 a2:Option Addr)(cp1 cp2:Nat)(l:List Tl)(w:World)(h1:zct B1 a1 cp1 l w)(h2:zct B2 a2 cp2 l w)(hl:l.length<=1000000):Calls prog 53 #[.slice a1 l.length cp1,.slice a2 l.length cp2] w λe w'=>e=.returned (.bool true)/\Below w.heap.size w w':=by
 have fq:=hid h1;have dx:=hid h2;clear h1 h2;go_enter func53,ntmps53;go_wp2;go_loopw [5] (λi wr=>∃k:Nat,k<=l.length/\i=.int .i64 k/\Below w.heap.size w wr) (λi _=>l.length-(intOf i).toNat)
 case atStart=>exact⟨0,Qt _,rfl,Below.refl _ _⟩
 case round=>
  obtain⟨k,hk,rfl,hb⟩:=hrel;by_cases hlt:k<l.length
  ·obtain⟨x,hx⟩:∃x,l[k]?=some x:=⟨l[k],Qg hlt⟩;obtain⟨g1,rfl,hg1,dh,c0,c1,c2⟩:=zph fq.out k x hx;obtain⟨g2,rfl,hg2,bg,d0,d1,d2⟩:=zph dx.out k x hx;obtain⟨xd,xk,xn⟩:=x;have key:∀g j,g<w.heap.size->wr.cell? ⟨g,j,none⟩=w.cell? ⟨g,j,none⟩:=λg j hg=>hb.cell (p:=⟨g,j,none⟩) hg;rw[<-key _ _ dh] at c0 c1 c2;rw[<-key _ _ bg] at d0 d1 d2;dsimp only at c0 c1 c2 d0 d1 d2;have hi1:(k:Int)<(l.length:Int):=by omega
   have hi0:(0:Int)<=(k:Int):=by omega
   have dw:=hid hb;clear hb key hx;go_wp2_with (fail);go_region
   go_wp2;go_roundw
   case rel=>exact⟨k+1,by omega,by go_num,dw.out.drew⟩
   case measure=>simp[intOf];omega
  ·obtain rfl:k=l.length:=by omega
   have dw:=hid hb;clear hb;go_wp2;go_ret;exact⟨rfl,dw.out⟩
theorem zlw (s:ByteArray)(w:World)(henv:EnvP w.heap.size w):Calls prog 29 #[.string s] w λe w'=>e=.returned (.bool true)/\Below w.heap.size w w':=by
 by_cases hs:s.size<=1500
 ·have hT:=hid (z0u s w hs henv);obtain⟨P,hP⟩:=Qyy (S.B (zmb s.data.toList));rw[hP] at hT;have hR:Hid (∀wx,Calls prog 51 #[.string s] wx λe w'=>e=.returned (.tuple #[.string P,.int .i64 0])/\Below wx.heap.size wx w'):=hid (λwx=>by rw[<-hP];exact zwz s wx hs);clear henv hP;go_enter func29,ntmps29;go_wp2_with fail
  refine hT.out.mono ?_;rintro e w1⟨rfl,hb1⟩;have dh:=hid hb1;have hz1:w.heap.size<=w1.heap.size:=hb1.size;clear hb1;go_wp2_with fail
  refine(hR.out w1).mono ?_;rintro e w2⟨rfl,hb2⟩;have bg:Hid (Below w.heap.size w w2):=hid (dh.out.trans (hb2.mono hz1));have hN:=hid (zhf 0 w2);clear hb2;go_wp2_with fail
  refine hN.out.mono ?_;rintro e w5⟨rfl,rfl⟩;go_wp2_with fail
  refine hN.out.mono ?_;rintro e w5⟨rfl,rfl⟩;go_wp2;go_ret;exact⟨rfl,bg.out⟩
 ·have hT:=hid (zy5 s w (by omega));have hR:=hid (zvh s w (by omega));have hN:=hid (zhf 1 w);clear henv;go_enter func29,ntmps29;go_wp2_with fail
  refine hT.out.mono ?_;rintro e w1⟨rfl,rfl⟩;go_wp2_with fail
  refine hR.out.mono ?_;rintro e w2⟨rfl,rfl⟩;go_wp2_with fail
  refine hN.out.mono ?_;rintro e w5⟨rfl,rfl⟩;go_wp2_with fail
  refine hN.out.mono ?_;rintro e w5⟨rfl,rfl⟩;go_wp2;go_ret;exact⟨rfl,Below.refl _ _⟩
def zks (D mb:Nat)(nv:Value)(nn:Nat)(w:World):Prop:=∃(na:Option Addr) (nc:Nat) (bs:List Value),w.heap[mb]?=some (.cells #[nv,.slice na nn nc] 42 (0,0))/\w.ownsRow D 65 1 (.slice na nn nc) nn bs/\(Value.slice na nn nc).ownBlock≠some mb
theorem zks.below {D mb:Nat}{nv:Value}{nn:Nat}{w w':World}(h:zks D mb nv nn w)(hb:Below w.heap.size w w'):zks D mb nv nn w':=by
 obtain⟨na,nc,bs,h1,h2,h3⟩:=h;refine⟨na,nc,bs,(hb.block mb (Qq.1 h1).1).trans h1,World.ownsRow.kept h2 (below_grown hb) ?_,h3⟩;cases h:(Value.slice na nn nc).ownBlock with
 | none=>exact .inl rfl
 | some g=>exact .inr (by simp)
theorem zks.mark {D mb B nn:Nat}{nv:Value}{a:Option Addr}{cp:Nat}{l:List Tl}{w:World}(hbk:zks D mb nv nn w)(hDm:D<=mb)(hBw:B<=w.heap.size)(hnn:nn<=1000000)(hown:zct B a cp l w)(hl:l.length<=900000)(hmB:mb<B)(hbl:∀na nc bs,w.heap[mb]?=some (.cells #[nv,.slice na nn nc] 42 (0,0))->w.ownsRow D 65 1 (.slice na nn nc) nn bs->∀g,(Value.slice na nn nc).ownBlock=some g->g<B):Calls prog 54 #[.pointer (some ⟨mb,0,none⟩),.slice a l.length cp] w λe w'=>e=.returned (.tuple #[])/\Hid (zks D mb nv (nn+4) w'/\Below D w w'):=by
 obtain⟨na,nc,bs,h1,h2,h3⟩:=hbk;refine(zpt D mb B a cp l na nn nc bs nv w hDm (by omega) hBw h1 h2 hnn hown hl (λe=>by have:=hown.lt mb e;omega) (λg hg e=>by have:=hown.lt g hg;have:=hbl na nc bs h1 h2 g e;omega) h3).mono ?_;rintro e w'⟨rfl,hU⟩;obtain⟨na',bg,bs',g1,g2,g3,g4⟩:=hU.out;exact⟨rfl,hid ⟨⟨na',bg,bs',g1,g2,g3⟩,g4⟩⟩
theorem zgr (D mb:Nat)(nv:Value)(nn:Nat)(s:ByteArray)(w:World)(henv:EnvP w.heap.size w)(hDm:D<=mb)(hbk:zks D mb nv nn w)(hnn:nn<=1000000):Calls prog 30 #[.pointer (some ⟨mb,0,none⟩),.string s] w λe w'=>e=.returned (.bool true)/\Hid (zks D mb nv (nn+4) w'/\Below D w w'):=by
 have gy:mb<w.heap.size:=by obtain⟨na,nc,bs,h1,_⟩:=hbk;exact(Qq.1 h1).1
 have jy:Hid (∀(wx:World) (B:Nat) (a:Option Addr) (cp:Nat) (l:List Tl),Below w.heap.size w wx->w.heap.size<=B->zct B a cp l wx->l.length<=900000->Calls prog 54 #[.pointer (some ⟨mb,0,none⟩),.slice a l.length cp] wx λe w'=>e=.returned (.tuple #[])/\Hid (zks D mb nv (nn+4) w'/\Below D wx w')):=hid (λwx B a cp l hb hB hown hl=>by
  have gq:zct w.heap.size a cp l wx:=by
   refine⟨hown.1,?_⟩;rcases hown.2 with h|⟨g,cap,cur,h1,h2,h3⟩
   ·exact .inl h
   ·exact .inr ⟨g,cap,cur,h1,by omega,h3⟩
  refine(hbk.below hb).mark hDm hb.size hnn gq hl gy (λna nc bs h1 h2 g hg=>?_);obtain⟨lg,kr,lq,k1,k2,k3⟩:=hbk;rw[hb.block mb gy,k1] at h1;simp only[Option.some.injEq,Obj.cells.injEq] at h1;have h1:=h1.1;simp at h1;rw[<-h1.1,<-h1.2] at hg;exact(k2.lt g hg).2)
 clear hbk;by_cases hs:s.size<=1500
 ·obtain⟨T,jm⟩:=Qyy (zcy s.data.toList);have jd:=zni s.data.toList (by rw[S.lda];exact hs);have hT:=zvi s w hs henv (by omega);have hR:Hid (∀wx,Calls prog 52 #[.string s] wx λe w'=>∃(B:Nat) (a:Option Addr) (cp:Nat),e=.returned (.tuple #[.slice a T.length cp,.int .i64 0])/\Hid (T.length<=900000/\wx.heap.size<=B/\zct B a cp T w'/\Below wx.heap.size wx w')):=hid (λwx=>by rw[<-jm];exact ztr s wx hs);rw[jm] at hT jd;have kg:=hid hT;clear henv jm hT;go_enter func30,ntmps30;go_wp2_with fail
  refine kg.out.mono ?_;rintro e w1⟨B1,a1,jw,rfl,hB1,hown1,hb1⟩;have bg:=hid hown1;have jl:=hid hb1;have hz1:w.heap.size<=w1.heap.size:=hb1.size;clear hown1 hb1;go_wp2_with fail
  refine(hR.out w1).mono ?_;rintro e w2⟨B2,a2,cp2,rfl,hU⟩;have hb2:Below w1.heap.size w1 w2:=hU.out.2.2.2;have hz2:w1.heap.size<=w2.heap.size:=hb2.size;have hS:=hid (ziv B1 B2 a1 a2 jw cp2 T w2 (bg.out.below hb2) hU.out.2.2.1 (by omega));have jk:Hid (Below w.heap.size w w2):=hid (jl.out.trans (hb2.mono hz1));have dw:Hid (zct B1 a1 jw T w2):=hid (bg.out.below hb2);clear hb2 hU;go_wp2_with fail
  refine hS.out.mono ?_;rintro e w3⟨rfl,hb3⟩;have hz3:w2.heap.size<=w3.heap.size:=hb3.size;have dh:Hid (Below w.heap.size w w3):=hid (jk.out.trans (hb3.mono (by omega)));have jh:=hid (jy.out w3 B1 a1 jw T dh.out hB1 (dw.out.below hb3) jd);clear hb3;go_wp2_with fail
  refine jh.out.mono ?_;rintro e w4⟨rfl,fq⟩;have dx:Hid (zks D mb nv (nn+4) w4/\Below D w w4):=hid ⟨fq.out.1,(dh.out.mono (by omega)).trans fq.out.2⟩;have jg:=hid (zhf 0 w4);clear fq;go_wp2_with fail
  refine jg.out.mono ?_;rintro e w5⟨rfl,rfl⟩;go_wp2_with fail
  refine jg.out.mono ?_;rintro e w5⟨rfl,rfl⟩;go_wp2;go_ret;exact⟨rfl,dx⟩
 ·have hT:=hid (zqc s w (by omega));have hR:=hid (zq0 s w (by omega));have hS:=hid (ziv 0 0 none none 0 0 [] w (World.ownsRow_nil _ _ _ _) (World.ownsRow_nil _ _ _ _) (by simp));rw[Qi] at hS;clear henv;go_enter func30,ntmps30;go_wp2_with fail
  refine hT.out.mono ?_;rintro e w1⟨rfl,rfl⟩;go_wp2_with fail
  refine hR.out.mono ?_;rintro e w2⟨rfl,rfl⟩;go_wp2_with fail
  refine hS.out.mono ?_;rintro e w3⟨rfl,hb3⟩;have dh:=hid hb3;have jh:=jy.out w3 w3.heap.size none 0 [] hb3 hb3.size (World.ownsRow_nil _ _ _ _) (by simp);rw[Qi] at jh;have jq:=hid jh;clear hb3 jh;go_wp2_with fail
  refine jq.out.mono ?_;rintro e w4⟨rfl,fq⟩;have dx:Hid (zks D mb nv (nn+4) w4/\Below D w w4):=hid ⟨fq.out.1,(dh.out.mono (by omega)).trans fq.out.2⟩;have jg:=hid (zhf 1 w4);clear fq;go_wp2_with fail
  refine jg.out.mono ?_;rintro e w5⟨rfl,rfl⟩;go_wp2_with fail
  refine jg.out.mono ?_;rintro e w5⟨rfl,rfl⟩;go_wp2;go_ret;exact⟨rfl,dx⟩
theorem zqz (s:ByteArray)(w:World)(henv:EnvP w.heap.size w):Calls prog 10 #[.string s] w λe w'=>e=.returned (.bool true)/\Below w.heap.size w w':=by
 obtain⟨W,hW⟩:=Qzz (w.alloc (.cells #[.slice none 0 0,.slice none 0 0] 42));have hbW:Below w.heap.size w W:=by rw[hW];exact(Below.refl _ _).alloc (Qc _) _
 have jh:W.heap.size=w.heap.size+1:=by rw[hW];simp
 have jg:W.heap[w.heap.size]?=some (.cells #[.slice none 0 0,.slice none 0 0] 42 (0,0)):=by rw[hW];exact za1 _ _
 have hE:Hid (∀wx,Below w.heap.size w wx->EnvP wx.heap.size wx):=hid (λwx hb=>(henv.below hb).mono hb.size);have hbk:zks w.heap.size w.heap.size (.slice none 0 0) 0 W:=⟨none,0,[],jg,World.ownsRow_nil _ _ _ _,by simp[Value.ownBlock]⟩;have jm:=hid (zlw ⟨#[35,32,97,32,42,98,42]⟩ W (hE.out W hbW));have jl:=hid hW;have gq:=hid hbW;have bg:=hid jh;have fq:=hid hbk;clear hW hbW jh jg henv hbk;go_enter func10,ntmps10;go_wp2_with fail
 rw[<-jl.out];refine jm.out.mono ?_;rintro e w1⟨rfl,hb1⟩;have hz1:W.heap.size<=w1.heap.size:=hb1.size;have dx:Hid (Below w.heap.size w w1):=hid (gq.out.trans (hb1.mono (by have:=bg.out;omega)));have hk1:=hid (fq.out.below hb1);have hP1:=hid (zlw s w1 (hE.out w1 dx.out));clear hb1;go_wp2_with fail
 refine hP1.out.mono ?_;rintro e w2⟨rfl,hb2⟩;have hz2:w1.heap.size<=w2.heap.size:=hb2.size;have dw:Hid (Below w.heap.size w w2):=hid (dx.out.trans (hb2.mono (by have:=bg.out;omega)));have hk2:=hid (hk1.out.below hb2);have hP2:=hid (zgr w.heap.size w.heap.size (.slice none 0 0) 0 ⟨#[35,32,97,32,42,98,42]⟩ w2 (hE.out w2 dw.out) (Qc _) hk2.out (by omega));clear hb2;go_wp2_with fail
 refine hP2.out.mono ?_;rintro e w3⟨rfl,jd⟩;have dh:Hid (Below w.heap.size w w3):=hid (dw.out.trans jd.out.2);have hP3:=hid (zgr w.heap.size w.heap.size (.slice none 0 0) 4 s w3 (hE.out w3 dh.out) (Qc _) jd.out.1 (by omega));clear jd;go_wp2_with fail
 refine hP3.out.mono ?_;rintro e w4⟨rfl,jk⟩;have gy:Hid (Below w.heap.size w w4):=hid (dh.out.trans jk.out.2);clear jk;go_wp2;go_ret;exact⟨rfl,gy.out⟩
end Go.Proofs.YtlojgpkajkedeaaGreatDoor
