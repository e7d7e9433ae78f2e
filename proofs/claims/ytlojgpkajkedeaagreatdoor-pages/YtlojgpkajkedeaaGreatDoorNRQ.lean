import Derived.Test.YtlojgpkajkedeaaGreatDoorNW17
import Derived.Test.YtlojgpkajkedeaaGreatDoorNRN
set_option maxHeartbeats 16000000
set_option maxRecDepth 100000
namespace Go.Proofs.YtlojgpkajkedeaaGreatDoor
open Go.RowKit Go.Proofs.Tryz
def BRel (C:List UInt8->List Rn->Prop)(d:Nat)(w:World)(ls:List Ln)(z:Int)(k n':Nat)(a:Option Addr)(cp:Nat)(g:Bool)(wr:World):Prop:=∃(ps:List (Rn × Value)) (bs:List S.Blk),n'=ps.length/\zoj d (datL ls) k bs g/\MatL C z bs (ps.map Prod.fst)/\ps.length<=k/\bs.length=ps.length/\NRel w.heap.size w ps (.slice a ps.length cp) wr
theorem zt7 (C:List UInt8->List Rn->Prop)(d:Nat)(hW:WOK C)(hR:ROK C d)(hL:LOK C d):ROK C (d+1):=by
 intro b o cap ls z w hcap hbw hrow mh hd;have hlen:=hrow.len;have dh:=hid hrow;have jh:=hid mh;have vw:=hid hW;have wh:=hid hR;have wm:=hid hL;have vv:=hid hd;have hfin:Hid (∀(k n' cp:Nat) (a:Option Addr) (g:Bool) (wr:World),BRel C d w ls z k n' a cp g wr->(datL ls).length<=k+S.za6 ((datL ls).drop k)->∃v ns,Ending.returned (.tuple #[.slice a n' cp,.bool g])=.returned (.tuple #[v,.bool (S.za2 (d+1) (datL ls)).2])/\RepN wr (λx=>w.heap.size<=x/\x<wr.heap.size) v ns/\Hid (MatL C z (S.za2 (d+1) (datL ls)).1 ns)/\Below w.heap.size w wr):=hid (by
  rintro k n' cp a g wr⟨ps,bs,rfl,pq,hM,_,_,hN⟩ he;have hE:=pq.last he;refine⟨_,ps.map Prod.fst,by rw[hE],?_,hid (by rw[hE];exact hM),hN.below⟩;refine zgp hN.own (λg hg=>?_) (λi p hi=>(hN.kids i p hi).move (λx hx=>⟨hx.1,hx.2.1⟩) (λ_ _=>rfl));exact hN.own.lt g hg)
 clear hrow mh hW hR hL hd;go_enter func47,ntmps47;go_wp2;go_loopw [4,5,6,7,8,9] (λov gv av _ _ _ wr=>∃(k n':Nat) (a:Option Addr) (cp:Nat) (g:Bool),k<=ls.length/\av=.int .i64 k/\ov=.slice a n' cp/\gv=.bool g/\Hid (BRel C d w ls z k n' a cp g wr)) (λ_ _ av _ _ _ _=>ls.length-(intOf av).toNat)
 case atStart=>exact⟨0,0,none,0,false,Qt _,rfl,rfl,rfl,hid ⟨[],[],rfl,zoj.start _ _,trivial,Qc _,rfl,NRel.start _ _⟩⟩
 case round=>
  obtain⟨k,n',a,cp,g,hk,rfl,rfl,rfl,hr⟩:=hrel;by_cases hlt:k<ls.length
  ·have xq:(k:Int)<(ls.length:Int):=by omega
   have hbr:Hid (Below w.heap.size w wr):=hid (by obtain⟨ps,bs,_,_,_,_,_,hN⟩:=hr.out;exact hN.below);go_upto_region 6 with fail
   go_loop [6] (λav=>∃i:Nat,k+i<=ls.length/\av=.int .i64 ((k:Int)+(i:Int))/\Hid (∀j,j<i->(((datL ls).drop k)[j]?.map S.blank)=some true)) (λav=>ls.length-(intOf av).toNat)
   case atStart=>exact⟨0,by omega,by simp,hid (by intro j hj;omega)⟩
   case round=>
    obtain⟨i,hi,rfl,hall⟩:=hrel;have hJ2:(0:Int)<=(k:Int)+(i:Int):=(by omega);have tq:((k:Int)+(i:Int)).toNat=k+i:=(by omega);by_cases hin:k+i<ls.length
    ·obtain⟨p,hp⟩:∃p,ls[k+i]?=some p:=⟨ls[k+i],Qg hin⟩;have hcA:=(dh.out.1 (k+i) p hp).1;have hcB:=(dh.out.1 (k+i) p hp).2;have hsz:=dh.out.size (k+i) p hp;have hd:=hid (zcd ls (k+i) p hp);obtain⟨bl,hbl⟩:=Qyy (S.blank p.1.data.toList);have hBl:=zc7 p.1 wr hsz;rw[hbl] at hBl;have qm:Hid (Calls prog 67 #[.string p.1] wr λe w'=>e=.returned (.bool bl)/\wr=w'):=hid (hBl.mono (λe w' ⟨h1,h2⟩=>⟨h1,h2.symm⟩));have qx:=hid hp;have jm:=hid hbl;obtain⟨s,y⟩:=p;dsimp only at hcA hcB hsz qm;have hcr:wr.cell? ⟨b,o+(k+i)*2,none⟩=some (.string s):=(hbr.out.cell (p:=⟨b,o+(k+i)*2,none⟩) hbw).trans hcA;have qb:=hid hcB;have hJ3:(k:Int)+(i:Int)<(ls.length:Int):=(by omega);clear hp hcA hcB hBl hbl;cases bl
     case true=>
      have ng:Hid (∀j,j<i+1->(((datL ls).drop k)[j]?.map S.blank)=some true):=hid (by
       intro j hj;by_cases e:j=i
       ·subst e;rw[Qn,hd.out,Option.map_some];exact congrArg some jm.out
       ·exact hall.out j (by omega))
      go_wp2_with (fail);refine qm.out.mono ?_;rintro e w'⟨rfl,rfl⟩;go_wp2;exact⟨⟨i+1,by omega,by go_num,ng.out⟩,by simp[intOf];omega⟩
     have hcb:Hid (S.za6 ((datL ls).drop k)=i):=hid (S.ze7 _ i hall.out (by rw[Qn,hd.out,Option.map_some];intro e;rw[show S.blank ((s,y):Ln).1.data.toList=false from jm.out] at e;simp at e));go_wp2_with (fail);refine qm.out.mono ?_;rintro e w'⟨rfl,rfl⟩;have xg:(((k:Int)+(i:Int)) == (ls.length:Int))=false:=(by rw[Qe];omega);have yj:¬(k:Int)+(i:Int)=(ls.length:Int):=(by omega);go_upto_region 9 with fail
     obtain⟨g2,hg2⟩:∃g2:Bool,(g||(decide (0<i)&&decide (0<n')))=g2:=⟨_,rfl⟩;have gq:=hid hg2;clear hg2;go_cut [5] (λs5 wx=>s5=.bool g2/\wr=wx)
     case first=>
      cases g
      ·by_cases h1:0<i
       ·have h1':(k:Int)<(k:Int)+(i:Int):=(by omega);have qp:(0:Int)<(i:Int):=(by omega);by_cases h2:0<n'
        ·have h2':(0:Int)<(n':Int):=(by omega);have he:Hid (g2=true):=hid (by rw[<-gq.out,decide_eq_true h1,decide_eq_true h2];rfl);go_wp2;go_meet;exact⟨by rw[he.out],rfl⟩
        ·have h2':¬(0:Int)<(n':Int):=(by omega);have he:Hid (g2=false):=hid (by rw[<-gq.out,decide_eq_true h1,decide_eq_false h2];rfl);go_wp2;go_meet;exact⟨by rw[he.out],rfl⟩
       ·have h1':¬(k:Int)<(k:Int)+(i:Int):=(by omega);have qp:¬(0:Int)<(i:Int):=(by omega);have he:Hid (g2=false):=hid (by rw[<-gq.out,decide_eq_false h1];rfl);go_wp2;go_meet;exact⟨by rw[he.out],rfl⟩
      ·have he:Hid (g2=true):=hid (by rw[<-gq.out];rfl);go_wp2;go_meet;exact⟨by rw[he.out],rfl⟩
     case rest=>
     obtain⟨rfl,rfl⟩:=hcut;have hdrop:ls.drop (k+i)=(s,y)::ls.drop (k+i+1):=by
      rw[Qm hin];congr 1
      have:=qx.out;rw[Qg hin] at this;exact Qy this
     obtain⟨ts,hts⟩:=Qyy (ls.drop (k+i+1));rw[hts] at hdrop;have hl1:ts.length+1=ls.length-(k+i):=(by rw[<-hts,Qf];omega);obtain⟨RB,ny⟩:=Qyy (S.zaf (S.za2 d) (datL (((s,y):Ln)::ts)));have dx:=(dh.out.below hbr.out hbw).drop (k+i);have fq:=jh.out.drop (k+i);rw[hdrop] at dx fq;have jl:b<wr.heap.size:=Qh hbw hbr.out.size;have kg:=zw5 C d vw.out wh.out wm.out b (o+(k+i)*2) (cap-(k+i)) ((s,y):Ln) ts (z+((k+i:Nat):Int)) wr (by omega) dx fq jl jm.out (by
      rw[<-hdrop,zln];have:=zhh (datL ls) (k+i);have:=vv.out;omega)
     rw[ny,hl1] at kg;obtain⟨K,n,inf,tx,sz,hE0,jy⟩:∃K n inf tx sz,BIs RB K n inf tx sz/\(K=RB.1.kind/\n=RB.1.n/\inf=S.B RB.1.info/\tx=S.B (zc4 RB.1.kind RB.1.text RB.1.loose)/\sz=(RB.2:Int)):=⟨RB.1.kind,RB.1.n,S.B RB.1.info,S.B (zc4 RB.1.kind RB.1.text RB.1.loose),(RB.2:Int),⟨λkv ns=>rfl,rfl⟩,rfl,rfl,rfl,rfl,rfl⟩;have hEq:=hid jy;have jg:=S.zfk (S.za2 d) s.data.toList (datL ts);rw[show S.zaf (S.za2 d) (s.data.toList::datL ts)=RB from ny] at jg;have hsz1:Hid (1<=RB.2/\k+i+RB.2<=ls.length):=hid ⟨jg.1,by have h2:=jg.2;simp only[Qd,zas] at h2;omega⟩;have lg:Hid (0<sz/\(k:Int)+(i:Int)+sz<=(ls.length:Int)):=hid (by have:=jy.2.2.2.2;have:=hsz1.out;omega);have qy:IntKind.i64.wrap ((k:Int)+(i:Int)+sz)=(k:Int)+(i:Int)+sz:=(by rw[IntKind.wrap_i64];have:=lg.out;omega);clear jg jy;have hE:=hid hE0;have yc:Hid (Calls prog 68 #[.slice (some ⟨b,o+(k+i)*2,none⟩) (ls.length-(k+i)) (cap-(k+i))] wr (zw1 C (z+((k+i:Nat):Int)) RB.1 wr K n inf tx sz)):=hid (kg.mono (by
      rintro e w2⟨kv,ns,rfl,hrep,hM,hb2⟩;obtain⟨ka,kn,kc,rfl⟩:=hrep.form;exact⟨ka,kn,kc,ns,by rw[hE.out.1,hE.out.2],hid ⟨hrep,hM.out,hb2⟩⟩))
     have yh:(k:Int)+(i:Int)<=(ls.length:Int):=(by omega);have yg:(k:Int)+(i:Int)<=(cap:Int):=(by omega);have hne:¬cap=k+i:=(by omega);have qj:=hid ny;have vk:=hid hl1;have jk:=hid hdrop;clear kg hE0 dx fq ny hl1 hdrop hts;go_wp2_with (fail);refine yc.out.mono ?_;rintro e w1⟨ka,kn,kc,ns,rfl,hU⟩;go_upto_region 11 with fail
     obtain⟨W2,hW2⟩:=Qzz (w1.alloc (.cells #[.int .i64 0,.int .i64 K,.int .i64 n,.string inf,.string tx,.int .i64 0,.slice ka kn kc] 118));rw[<-hW2];have jw:Below w1.heap.size w1 W2:=(by rw[hW2];exact(Below.refl _ _).alloc (Qc _) _);have hs2:W2.heap.size=w1.heap.size+1:=(by rw[hW2];simp);have hx2:W2.heap[w1.heap.size]?=some (.cells #[.int .i64 0,.int .i64 K,.int .i64 n,.string inf,.string tx,.int .i64 0,.slice ka kn kc] 118 (0,0)):=(by rw[hW2];exact za1 _ _);have qg:b<w1.heap.size:=Qh jl hU.out.2.2.size;have hcy:W2.cell? ⟨b,o+(k+i)*2+1,none⟩=some (.int .i64 y):=(jw.cell (p:=⟨b,o+(k+i)*2+1,none⟩) qg).trans ((hU.out.2.2.cell (p:=⟨b,o+(k+i)*2+1,none⟩) jl).trans ((hbr.out.cell (p:=⟨b,o+(k+i)*2+1,none⟩) hbw).trans qb.out));have d5:W2.cell? ⟨w1.heap.size,5,none⟩=some (.int .i64 0):=za0 hx2 5 _ rfl;have g5:=za7 hx2;obtain⟨W3,hW3⟩:=Qzz (W2.setCell ⟨w1.heap.size,5,none⟩ (.int .i64 y));have hx3:W3.heap[w1.heap.size]?=some (.cells #[.int .i64 0,.int .i64 K,.int .i64 n,.string inf,.string tx,.int .i64 y,.slice ka kn kc] 118 (0,0)):=(by rw[hW3];exact za3 (cs:=[.int .i64 0,.int .i64 K,.int .i64 n,.string inf,.string tx,.int .i64 0,.slice ka kn kc]) hx2 5 _);have mq:Below w1.heap.size w1 W3:=(by rw[hW3];exact jw.setCell (p:=⟨w1.heap.size,5,none⟩) (Qc _) _);have hs3:W3.heap.size=w1.heap.size+1:=(by rw[hW3];simp[World.setCell,hs2]);have qh:=hid hW3;have bg:=hid hx3;have jd:=hid mq;have lq:=hid hs3;clear hW2 jw hs2 hx2 hW3 hx3 mq hs3;go_upto_region 12 with fail
     rw[<-qh.out];clear hcy d5 g5;have q0:W3.cell? ⟨w1.heap.size,0,none⟩=some (.int .i64 0):=za0 bg.out 0 _ rfl;have q1:W3.cell? ⟨w1.heap.size,1,none⟩=some (.int .i64 K):=za0 bg.out 1 _ rfl;have q2:W3.cell? ⟨w1.heap.size,2,none⟩=some (.int .i64 n):=za0 bg.out 2 _ rfl;have q3:W3.cell? ⟨w1.heap.size,3,none⟩=some (.string inf):=za0 bg.out 3 _ rfl;have q4:W3.cell? ⟨w1.heap.size,4,none⟩=some (.string tx):=za0 bg.out 4 _ rfl;have q5:W3.cell? ⟨w1.heap.size,5,none⟩=some (.int .i64 y):=za0 bg.out 5 _ rfl;have q6:W3.cell? ⟨w1.heap.size,6,none⟩=some (.slice ka kn kc):=za0 bg.out 6 _ rfl;obtain⟨ps,bs,rfl,pq,hM,hpk,jq,hN⟩:=hr.out;obtain⟨i0,hi',hi0,hi1,hi2⟩:=info_parts Tryz.zmf;have kr:w.heap.size<=wr.heap.size:=hbr.out.size;have gy:Below wr.heap.size wr w1:=hU.out.2.2;have qz:w.heap.size<=w1.heap.size:=Qj kr gy.size;have hbX:Hid (∀ob,Below w1.heap.size w1 (W3.alloc ob)):=hid (λob=>jd.out.alloc jd.out.size ob);have hown2:Hid (∀ob,(W3.alloc ob).ownsRow w.heap.size 118 7 (.slice a ps.length cp) ps.length (zca ps)):=hid (λob=>(hN.own.kept (Below.zfn (gy.trans (jd.out.mono gy.size))) (by
      cases h:(Value.slice a ps.length cp).ownBlock with
      | none=>exact .inl rfl
      | some g=>exact .inr (by simp))).alloc ob)
     have hnew:Hid (∀j v,([.int .i64 0,.int .i64 K,.int .i64 n,.string inf,.string tx,.int .i64 y,.slice ka kn kc]:List Value)[j]?=some v->(W3.alloc (.cells #[.int .i64 0,.int .i64 K,.int .i64 n,.string inf,.string tx,.int .i64 y,.slice ka kn kc] 118)).cell? ((⟨W3.heap.size,0,none⟩:Addr).add j)=some v):=hid (λj v hj=>World.news_of_block (za1 _ _) j v (by exact hj));have hone:Hid (∀v∈([.int .i64 0,.int .i64 K,.int .i64 n,.string inf,.string tx,.int .i64 y,.slice ka kn kc]:List Value),v.oneCell'=true):=hid (by
      intro v hv;simp at hv;rcases hv with rfl|rfl|rfl|rfl|rfl|rfl|rfl<;>rfl)
     have hstep:Hid (∀ob g' dw w2,w2.ownsRow w.heap.size 118 7 (.slice (some ⟨g',0,none⟩) (ps.length+1) dw) (ps.length+1) (zca ps++[.int .i64 0,.int .i64 K,.int .i64 n,.string inf,.string tx,.int .i64 y,.slice ka kn kc])->(W3.alloc ob).grownBy w2 (Value.slice a ps.length cp).ownBlock->((Value.slice a ps.length cp).ownBlock=some g'\/w1.heap.size<=g')->BRel C d w ls z (k+i+RB.2) (ps.length+1) (some ⟨g',0,none⟩) dw g2 w2):=hid (λob g' dw w2 ho hgw hat=>by
      obtain⟨e1,e2,e3,e4,e5⟩:=hEq.out;have hy:y=z+((k+i:Nat):Int):=jh.out (k+i) (s,y) qx.out;refine⟨ps++[(.nd RB.1.kind RB.1.n RB.1.info (zc4 RB.1.kind RB.1.text RB.1.loose) y ns,.slice ka kn kc)],bs++[RB.1.put ((k+i:Nat):Int)],by simp,?_,?_,?_,by simp[jq],?_⟩
      ·have hst:=pq.step hcb.out (by rw[zas];exact hin) (b:=RB.1) (z:=RB.2) (by rw[<-zln,jk.out];exact qj.out) hsz1.out.1 (by rw[zas];exact hsz1.out.2);have hbe:(!bs.isEmpty)=decide (0<ps.length):=(by rw[<-jq];cases bs<;>simp);rw[hbe,gq.out] at hst;exact hst
      ·rw[Qv];refine hM.append ?_;simp only[Qs,List.map_nil,MatL,and_true];rw[hy];exact z0o hU.out.2.1
      ·rw[Qa];have:=hsz1.out.1;simp;omega
      ·refine hN.step kr gy hU.out.1 ?_ (hbX.out ob) hgw hat;subst e1 e2 e3 e4;exact ho)
     have vg:w.heap.size<=W3.heap.size:=(by have:=lq.out;omega);have hps:ps.length+1<=1000001:=(by omega);clear pq hM hpk jq hN gy;go_wp2_with (at_builtin;refine wpList_append_lies _ (by rfl) _ _ 80 (by rfl) w.heap.size 118 i0 (.agg #[.int .i64 0,.int .i64 0,.int .i64 0,.string ⟨#[]⟩,.string ⟨#[]⟩,.int .i64 0,.slice none 0 0]) 7 88 underlying80 hi' hi0 hi1 hi2 (by rfl) (by omega) (.slice a ps.length cp) ps.length (zca ps) (by rfl) (hown2.out _) ⟨W3.heap.size,0,none⟩ 1 1 [.int .i64 0,.int .i64 K,.int .i64 n,.string inf,.string tx,.int .i64 y,.slice ka kn kc] (by rfl) (by rfl) hnew.out hone.out (by omega) (by unfold maxLen;omega) (by omega) (by simp;omega) (W3.heap.size+1) (by simp) ?_)
     intro g' dw w2 hown1 hgrow hat pz;have hR:=hid (hstep.out _ g' dw w2 hown1 hgrow (by rcases hat with h|h;exact .inl h;exact .inr (by have:=lq.out;omega)))
     clear hown1 hgrow hat pz;go_wp2;go_roundw
     case rel=>exact⟨k+i+RB.2,ps.length+1,some ⟨g',0,none⟩,dw,g2,hsz1.out.2,by rw[hEq.out.2.2.2.2];go_num,rfl,rfl,hR⟩
     case measure=>simp[intOf];have:=lg.out;omega
    ·have hie:k+i=ls.length:=(by omega);have hcb:Hid (S.za6 ((datL ls).drop k)=i):=hid (S.ze7 _ i hall.out (by rw[Qn,Qr (by rw[zas];omega)];simp));have hres:=hid (hfin.out k n' cp a g wr hr.out (by rw[hcb.out,zas];omega));have hJ3:¬(k:Int)+(i:Int)<(ls.length:Int):=(by omega);have yt:(k:Int)+(i:Int)=(ls.length:Int):=(by omega);have xg:(((k:Int)+(i:Int)) == (ls.length:Int))=true:=(by rw[beq_iff_eq];omega);clear hie;go_wp2;refine bodyPost_ret (v:=.tuple #[.slice a n' cp,.bool g]) (by simp[results,results47,go_sem]) rfl ?_;obtain⟨v,ns,h1,h2,h3,h4⟩:=hres.out;first|exact⟨v,ns,h1,h2,h3,h4⟩|exact⟨v,h1,ns,h2,h3,h4⟩|exact⟨v,h1,⟨ns,h2,h3⟩,h4⟩
  ·have xq:¬(k:Int)<(ls.length:Int):=by omega
   have hres:=hid (hfin.out k n' cp a g wr hr.out (by rw[zas];omega));go_wp2;refine bodyPost_ret (v:=.tuple #[.slice a n' cp,.bool g]) (by simp[results,results47,go_sem]) rfl ?_;obtain⟨v,ns,h1,h2,h3,h4⟩:=hres.out;first|exact⟨v,ns,h1,h2,h3,h4⟩|exact⟨v,h1,ns,h2,h3,h4⟩|exact⟨v,h1,⟨ns,h2,h3⟩,h4⟩
def zi0 (d:Nat)(m:S.Mark)(row:List (List UInt8))(k:Nat)(x:List UInt8)(bs0:List S.Blk)(lo:Bool):Prop:=row[k]?=some x/\(S.item x).ok=true/\∃f,row.length-k<=f /\
 S.zbh (S.za2 d) m row=(.mk 6 m.number [] [] (lo||(S.zau (S.za2 d) m.kind row.length f (S.item x) (row.drop k)).2.1) (bs0++(S.zau (S.za2 d) m.kind row.length f (S.item x) (row.drop k)).1),k+(S.zau (S.za2 d) m.kind row.length f (S.item x) (row.drop k)).2.2)
theorem zi0.start (d:Nat)(x:List UInt8)(r:List (List UInt8))(h:(S.item x).ok=true):zi0 d (S.item x) (x::r) 0 x [] false:=by
 refine⟨rfl,h,(x::r).length,by omega,?_⟩;rw[List.drop_zero,Nat.zero_add,Bool.false_or,List.nil_append];rfl
def zor (d:Nat)(k:Nat)(own:List (List UInt8)):S.Blk:=.at_ (k:Int) 7 0 [] [] false (S.za2 d own).1
theorem zi0.last {d:Nat}{m:S.Mark}{row:List (List UInt8)}{k:Nat}{x:List UInt8}{bs0:List S.Blk}{lo:Bool}(h:zi0 d m row k x bs0 lo){own:List (List UInt8)}(ho:S.zah (S.item x) (row.drop k)=own){gap:Nat}(hg:S.za6 (row.drop (k+own.length))=gap)(hn:(S.zaw m.kind (row.drop (k+own.length+gap))).ok=false):S.zbh (S.za2 d) m row=(.mk 6 m.number [] [] (lo||(S.za2 d own).2) (bs0++[zor d k own]),k+own.length):=by
 obtain⟨hx,hok,f,hf,h⟩:=h;have hk:=(Qb.1 hx).1;obtain⟨f,rfl⟩:∃f',f=f' + 1:=⟨f-1,by omega⟩;have e:S.zau (S.za2 d) m.kind row.length (f+1) (S.item x) (row.drop k)=([zor d k own],(S.za2 d own).2,own.length):=by
  simp only[S.zau];have e0:(row.drop k).drop own.length=row.drop (k+own.length):=by rw[Qbb]
  have bg:(row.drop k).drop (own.length+gap)=row.drop (k+own.length+gap):=by rw[Qbb,Nat.add_assoc]
  rw[ho,e0,hg,bg,hn,Qf,if_neg (by simp)];have e1:row.length-(row.length-k)=k:=by omega
  rw[e1];rfl
 rw[h,e]
theorem zi0.step {d:Nat}{m:S.Mark}{row:List (List UInt8)}{k:Nat}{x:List UInt8}{bs0:List S.Blk}{lo:Bool}(h:zi0 d m row k x bs0 lo){own:List (List UInt8)}(ho:S.zah (S.item x) (row.drop k)=own){gap:Nat}(hg:S.za6 (row.drop (k+own.length))=gap)(hn:(S.zaw m.kind (row.drop (k+own.length+gap))).ok=true)(h1:1<=own.length):∃y,zi0 d m row (k+own.length+gap) y (bs0++[zor d k own]) (lo||(S.za2 d own).2||decide (0<gap)):=by
 obtain⟨hx,hok,f,hf,h⟩:=h;have hk:=(Qb.1 hx).1;obtain⟨f,rfl⟩:∃f',f=f' + 1:=⟨f-1,by omega⟩;cases hr:row.drop (k+own.length+gap) with
 | nil=>rw[hr] at hn;simp[S.zaw] at hn
 | cons y r=>
  rw[hr] at hn;obtain⟨n1,n2,n3⟩:=S.zf9 m.kind y r hn;refine⟨y,?_,n3,f,by omega,?_⟩
  ·have:=congrArg (λl=>l[0]?) hr;simpa [List.getElem?_drop] using this
  ·have e:S.zau (S.za2 d) m.kind row.length (f+1) (S.item x) (row.drop k)=(zor d k own::(S.zau (S.za2 d) m.kind row.length f (S.item y) (y::r)).1,(S.za2 d own).2||decide (0<gap)||(S.zau (S.za2 d) m.kind row.length f (S.item y) (y::r)).2.1,own.length+gap+(S.zau (S.za2 d) m.kind row.length f (S.item y) (y::r)).2.2):=by
    simp only[S.zau];have e0:(row.drop k).drop own.length=row.drop (k+own.length):=(by rw[Qbb]);have bg:(row.drop k).drop (own.length+gap)=row.drop (k+own.length+gap):=(by rw[Qbb,Nat.add_assoc]);rw[ho,e0,hg,bg,hr,n1,n3,Qf,if_pos rfl];have e1:row.length-(row.length-k)=k:=(by omega);rw[e1];rfl
   rw[h,e,hr];refine Prod.ext ?_ ?_
   ·simp only[Qp,List.singleton_append,Bool.or_assoc]
   ·dsimp only;omega
theorem z3m (C:List UInt8->List Rn->Prop)(hW:WOK C)(hL:∀d,ROK C d->LOK C d)(d:Nat):ROK C d:=by
 induction d with
 | zero=>
  intro b o cap ls z w _ _ _ _ hd;exact absurd hd (Nat.not_lt_zero _)
 | succ d ih=>exact zt7 C d hW ih (hL d ih)
theorem NRel.z1r {B:Nat}{w wr:World}{ps:List (Rn × Value)}{v:Value}(h:NRel B w ps v wr)(N j:Nat)(hN:N<B)(u:Value):NRel B (wr.setCell ⟨N,j,none⟩ u) ps v (wr.setCell ⟨N,j,none⟩ u):=by
 have hb:∀x,B<=x->(wr.setCell ⟨N,j,none⟩ u).heap[x]?=wr.heap[x]?:=λx hx=>Below.heap_setCell _ _ _ _ (by show x≠N;omega);have hs:(wr.setCell ⟨N,j,none⟩ u).heap.size=wr.heap.size:=by simp[World.setCell]
 refine⟨zej h.own (λx hx _=>hb x hx),λi p hi=>(h.kids i p hi).move (λx hx=>⟨hx.1,by rw[hs];exact hx.2.1,hx.2.2⟩) (λx hx=>hb x hx.1),Below.refl _ _⟩
theorem NRel.after {B:Nat}{w wr w1:World}{ps:List (Rn × Value)}{v:Value}(h:NRel B w ps v wr)(hb:Below wr.heap.size wr w1):NRel B w1 ps v w1:=by
 have hlt:=h.own.lt;refine⟨zej h.own (λx _ hx2=>hb.block x hx2),λi p hi=>(h.kids i p hi).move (λx hx=>⟨hx.1,Qh hx.2.1 hb.size,hx.2.2⟩) (λx hx=>hb.block x hx.2.1),Below.refl _ _⟩
structure LRel (C:List UInt8->List Rn->Prop)(d:Nat)(m:S.Mark)(w W3:World)(ls:List Ln)(z:Int)(k n':Nat)(a:Option Addr)(cp:Nat)(lo:Bool)(ps:List (Rn × Value))(bs:List S.Blk)(x:List UInt8)(wr:World):Prop where
 num:n'=ps.length
 at_:zi0 d m (datL ls) k x bs lo
 mat:MatL C z bs (ps.map Prod.fst)
 same:bs.length=ps.length
 count:ps.length<=k
 row:NRel (w.heap.size+3) wr ps (.slice a n' cp) wr
 out:wr.heap[w.heap.size+2]?=some (.cells #[.int .i64 0,.int .i64 6,.int .i64 m.number,.string ⟨#[]⟩,.string (S.B (zc4 6 [] lo)),.int .i64 0,.slice a n' cp] 118 (0,0))
 below:Below (w.heap.size+2) W3 wr
 size:w.heap.size+3<=wr.heap.size
structure OMid (W4:World)(pb:Nat)(y:Int)(ka:Option Addr)(kn kc:Nat)(ns:List Rn)(wx:World):Prop where
 below:Below W4.heap.size W4 wx
 blk:wx.heap[pb]?=some (.cells #[.int .i64 0,.int .i64 7,.int .i64 0,.string ⟨#[]⟩,.string ⟨#[]⟩,.int .i64 y,.slice ka kn kc] 118 (0,0))
 rep:RepN wx (λx=>W4.heap.size<=x/\x<wx.heap.size) (.slice ka kn kc) ns
theorem z5w {W4 w0 w3:World}{y:Int}{ka:Option Addr}{kn kc:Nat}{ns:List Rn}(h0:Below W4.heap.size W4 w0)(hr:RepN w3 (λx=>w0.heap.size<=x/\x<w3.heap.size) (.slice ka kn kc) ns)(h3:Below w0.heap.size w0 w3):OMid W4 w3.heap.size y ka kn kc ns (w3.alloc (.cells #[.int .i64 0,.int .i64 7,.int .i64 0,.string ⟨#[]⟩,.string ⟨#[]⟩,.int .i64 y,.slice ka kn kc] 118)):=by
 have h1:=h0.size;have h2:=h3.size;have hb:Below w3.heap.size w3 (w3.alloc (.cells #[.int .i64 0,.int .i64 7,.int .i64 0,.string ⟨#[]⟩,.string ⟨#[]⟩,.int .i64 y,.slice ka kn kc] 118)):=(Below.refl _ _).alloc (Qc _) _;exact⟨(h0.trans (h3.mono h1)).alloc (by omega) _,za1 _ _,hr.move (λx hx=>⟨by omega,Qh hx.2 hb.size⟩) (λx hx=>hb.block x hx.2)⟩
theorem z5y {W4 w0 w3:World}{y:Int}{ka:Option Addr}{kn kc:Nat}{ns:List Rn}(h0:Below W4.heap.size W4 w0)(hz:w0.heap.size=W4.heap.size+1)
  (hx:w0.heap[W4.heap.size]?=some (.cells #[.int .i64 0,.int .i64 0,.int .i64 0,.string ⟨#[]⟩,.string ⟨#[]⟩,.int .i64 0,.slice none 0 0] 118 (0,0)))
  (hr:RepN w3 (λx=>w0.heap.size<=x/\x<w3.heap.size) (.slice ka kn kc) ns) (h3:Below w0.heap.size w0 w3) :
  OMid W4 W4.heap.size y ka kn kc ns (((((((w3.setCell ⟨W4.heap.size,0,none⟩ (.int .i64 0)).setCell ⟨W4.heap.size,1,none⟩ (.int .i64 7)).setCell ⟨W4.heap.size,2,none⟩ (.int .i64 0)).setCell ⟨W4.heap.size,3,none⟩ (.string ⟨#[]⟩)).setCell ⟨W4.heap.size,4,none⟩ (.string ⟨#[]⟩)).setCell ⟨W4.heap.size,5,none⟩ (.int .i64 y)).setCell ⟨W4.heap.size,6,none⟩ (.slice ka kn kc)):=by
 have h1:=h0.size;have h2:=h3.size;exact⟨zbb (h0.trans (h3.mono h1)) (Qc _) _ _ _ _ _ _ _,set7 ((h3.block W4.heap.size (by omega)).trans hx) _ _ _ _ _ _ _,(zcw hr (N:=W4.heap.size) (λx hx e=>by omega) _ _ _ _ _ _ _).move (λx hx=>⟨by omega,by rw[zho];exact hx.2⟩) (λ_ _=>rfl)⟩
structure LMid (C:List UInt8->List Rn->Prop)(d:Nat)(m:S.Mark)(w W3:World)(ls:List Ln)(z:Int)(k:Nat)(a:Option Addr)(cp:Nat)(lo lo2:Bool)(Ow:List (List UInt8))(ps:List (Rn × Value))(bs:List S.Blk)(x:List UInt8)(wr:World):Prop where
 at_:zi0 d m (datL ls) k x bs lo
 mat:MatL C z (bs++[zor d k Ow]) (ps.map Prod.fst)
 same:(bs++[zor d k Ow]).length=ps.length
 count:ps.length<=k+1
 row:NRel (w.heap.size+3) wr ps (.slice a ps.length cp) wr
 out:wr.heap[w.heap.size+2]?=some (.cells #[.int .i64 0,.int .i64 6,.int .i64 m.number,.string ⟨#[]⟩,.string (S.B (zc4 6 [] lo2)),.int .i64 0,.slice a ps.length cp] 118 (0,0))
 below:Below (w.heap.size+2) W3 wr
 size:w.heap.size+3<=wr.heap.size
theorem LMid.after {C:List UInt8->List Rn->Prop}{d:Nat}{m:S.Mark}{w W3:World}{ls:List Ln}{z:Int}{k:Nat}{a:Option Addr}{cp:Nat}{lo lo2:Bool}{Ow:List (List UInt8)}{ps:List (Rn × Value)}{bs:List S.Blk}{x:List UInt8}{wr wy:World}(h:LMid C d m w W3 ls z k a cp lo lo2 Ow ps bs x wr)(hb:Below wr.heap.size wr wy):LMid C d m w W3 ls z k a cp lo lo2 Ow ps bs x wy:=by
 have h1:=h.size;have h2:=hb.size;exact⟨h.at_,h.mat,h.same,h.count,h.row.after hb,(hb.block _ (by omega)).trans h.out,h.below.trans (hb.mono (by omega)),by omega⟩
theorem LMid.loose {C:List UInt8->List Rn->Prop}{d:Nat}{m:S.Mark}{w W3:World}{ls:List Ln}{z:Int}{k:Nat}{a:Option Addr}{cp:Nat}{lo lo2:Bool}{Ow:List (List UInt8)}{ps:List (Rn × Value)}{bs:List S.Blk}{x:List UInt8}{wr:World}(h:LMid C d m w W3 ls z k a cp lo lo2 Ow ps bs x wr):LMid C d m w W3 ls z k a cp lo true Ow ps bs x (wr.setCell ⟨w.heap.size+2,4,none⟩ (.string ⟨#[108,111,111,115,101]⟩)):=by
 refine⟨h.at_,h.mat,h.same,h.count,h.row.z1r (w.heap.size+2) 4 (by omega) _,?_,h.below.setCell (p:=⟨w.heap.size+2,4,none⟩) (Qc _) _,by have:=h.size;simpa [World.setCell] using this⟩;exact za3 (cs:=[.int .i64 0,.int .i64 6,.int .i64 m.number,.string ⟨#[]⟩,.string (S.B (zc4 6 [] lo2)),.int .i64 0,.slice a ps.length cp]) h.out 4 _
theorem LMid.next {C:List UInt8->List Rn->Prop}{d:Nat}{m:S.Mark}{w W3:World}{ls:List Ln}{z:Int}{k:Nat}{a:Option Addr}{cp:Nat}{lo lo2:Bool}{Ow:List (List UInt8)}{ps:List (Rn × Value)}{bs:List S.Blk}{x:List UInt8}{wr:World}(h:LMid C d m w W3 ls z k a cp lo lo2 Ow ps bs x wr)
  (ho:S.zah (S.item x) ((datL ls).drop k)=Ow) {gap:Nat} (hg:S.za6 ((datL ls).drop (k+Ow.length))=gap) (hn:(S.zaw m.kind ((datL ls).drop (k+Ow.length+gap))).ok=true) (h1:1<=Ow.length) (hlo:lo2=(lo||(S.za2 d Ow).2||decide (0<gap))) :
  ∃y,LRel C d m w W3 ls z (k+Ow.length+gap) ps.length a cp lo2 ps (bs++[zor d k Ow]) y wr:=by
 obtain⟨y,hy⟩:=h.at_.step ho hg hn h1;rw[<-hlo] at hy;exact⟨y,rfl,hy,h.mat,h.same,by have:=h.count;omega,h.row,h.out,h.below,h.size⟩
theorem zyv (C:List UInt8->List Rn->Prop)(d:Nat)(hR:ROK C d):LOK C d:=by
 intro b o cap p0 ts z w m hcap hbw hrow mq hm hok hd;obtain⟨W1,hW1⟩:=Qzz (w.alloc (.cells #[.int .u8 (m.kind.toNat:Int),.int .i64 m.number,.bool m.empty,.int .i64 (m.zaa:Nat)] 150));have hs1:W1.heap.size=w.heap.size+1:=by rw[hW1];simp
 have hb1:Below w.heap.size w W1:=by rw[hW1];exact(Below.refl _ _).alloc (Qc _) _
 have hx1:W1.heap[w.heap.size]?=some (.cells #[.int .u8 (m.kind.toNat:Int),.int .i64 m.number,.bool m.empty,.int .i64 (m.zaa:Nat)] 150 (0,0)):=by rw[hW1];exact za1 _ _
 obtain⟨W2,hW2,hb2,hs2,hx2⟩:=zlx W1;obtain⟨nu,hnu⟩:=Qyy (m.number);obtain⟨W3,hW3⟩:=Qzz (W2.alloc (.cells #[.int .i64 0,.int .i64 6,.int .i64 nu,.string ⟨#[]⟩,.string ⟨#[116,105,103,104,116]⟩,.int .i64 0,.slice none 0 0] 118));have hs3:W3.heap.size=w.heap.size+3:=by rw[hW3];simp;omega
 have hb3:Below W2.heap.size W2 W3:=by rw[hW3];exact(Below.refl _ _).alloc (Qc _) _
 have hx3:W3.heap[w.heap.size+2]?=some (.cells #[.int .i64 0,.int .i64 6,.int .i64 nu,.string ⟨#[]⟩,.string ⟨#[116,105,103,104,116]⟩,.int .i64 0,.slice none 0 0] 118 (0,0)):=by rw[hW3,show w.heap.size+2=W2.heap.size by omega];exact za1 _ _
 have hbA:Below w.heap.size w W3:=hb1.trans ((hb2.trans (hb3.mono (by omega))).mono (by omega));have hlen:=hrow.len;simp only[Qd] at hlen;have c1:W2.cell? ⟨w.heap.size,1,none⟩=some (.int .i64 nu):=by rw[<-hnu];exact za0 ((hb2.block w.heap.size (by omega)).trans hx1) 1 _ rfl
 have hxk:W3.heap[w.heap.size]?=_:=((hb3.block w.heap.size (by omega)).trans ((hb2.block w.heap.size (by omega)).trans hx1));have hxr:W3.heap[w.heap.size+1]?=some (.cells #[.int .i64 0,.int .i64 0,.int .i64 0,.string ⟨#[]⟩,.string ⟨#[]⟩,.int .i64 0,.slice none 0 0] 118 (0,0)):=(hb3.block (w.heap.size+1) (by omega)).trans (by rw[<-hs1];exact hx2);have fq:=hid (hrow.below hbA hbw);have jw:=hid mq;have hRH:=hid hR;have hdH:=hid hd;have hmH:=hid hm;have zq:=hid hok;have zw:=hid hnu;have hW1H:=hid hW1;have hW2H:=hid hW2;have hW3H:=hid hW3;have yt:=hid hx3;have yj:=hid hxk;have yc:=hid hxr;have kr:=hid hbA;have zm:=hid hs1;have zl:=hid hs2;have zk:=hid hs3;have hwW2:w.heap.size<W2.heap.size:=by omega
 have hbW3:b<W3.heap.size:=by omega
 clear hrow mq hR hd hm hok hnu hW1 hW2 hW3 hx3 hxk hxr hbA hs1 hs2 hs3 hb1 hb2 hb3 hx1 hx2;go_enter func98,ntmps98;go_upto_region 1 with fail
 rw[<-hW1H.out,<-hW2H.out];go_upto_region 2 with fail
 rw[<-hW3H.out,show W2.heap.size=w.heap.size+2 from by have:=zm.out;have:=zl.out;omega];go_wp2;go_loopw [7,8,9,10,11,12,13,14,15,16,17] (λav _ _ _ _ _ _ _ _ _ _ wr=>∃(k n':Nat) (a:Option Addr) (cp:Nat) (lo:Bool),k<ts.length+1/\av=.int .i64 k/\Hid (∃ps bs x,LRel C d m w W3 (p0::ts) z k n' a cp lo ps bs x wr)) (λav _ _ _ _ _ _ _ _ _ _ _=>ts.length+1-(intOf av).toNat)
 case atStart=>
  refine⟨0,0,none,0,false,by omega,rfl,hid ⟨[],[],p0.1.data.toList,rfl,?_,trivial,rfl,Qc _,NRel.start _ _,?_,Below.refl _ _,by rw[zk.out];exact Qc _⟩⟩
  ·have:=zi0.start d p0.1.data.toList (datL ts) (by rw[hmH.out];exact zq.out);rw[hmH.out] at this;exact this
  ·rw[zw.out];exact yt.out
 case round=>
  obtain⟨k,n',a,cp,lo,hk,rfl,hr⟩:=hrel;obtain⟨ps,bs,x,hL⟩:=hr.out;obtain⟨p,hp⟩:∃p,(p0::ts)[k]?=some p:=⟨(p0::ts)[k]'(by simpa using hk),Qg (by simpa using hk)⟩;have hxp:p.1.data.toList=x:=by have:=hL.at_.1;rw[zcd _ k p hp] at this;exact Qy this
  have hbr:Below w.heap.size w wr:=kr.out.trans (hL.below.mono (by omega));have hb3r:b<wr.heap.size:=Qh hbw hbr.size;have hcA:=(fq.out.1 k p hp).1;have hsz:=fq.out.size k p hp;have hcr:wr.cell? ⟨b,o+k*2,none⟩=some (.string p.1):=(hL.below.cell (p:=⟨b,o+k*2,none⟩) (by show b<w.heap.size+2;omega)).trans hcA;have hIt:=hid (zio p.1 wr hsz);have hJ0:(0:Int)<=(k:Int):=by omega
  have hJ1:(k:Int)<(ts.length:Int)+1:=by omega
  have dx:=hid hL;have hpH:=hid hp;have yg:=hid hxp;have qb:=hid hbr;obtain⟨s,y⟩:=p;dsimp only at hcr hIt hsz;clear hL hp hxp hbr hcA hr;go_wp2_with fail
  refine hIt.out.mono ?_;rintro e w6⟨ik,inn,ib,img,rfl,hIs,hb6⟩;obtain⟨W4,qy⟩:=Qzz (w6.alloc (.cells #[.int .u8 ik,.int .i64 inn,.bool ib,.int .i64 img] 150));have hs4:W4.heap.size=w6.heap.size+1:=by rw[qy];simp
  have hb4:Below w6.heap.size w6 W4:=by rw[qy];exact(Below.refl _ _).alloc (Qc _) _
  have hx4:W4.heap[w6.heap.size]?=some (.cells #[.int .u8 ik,.int .i64 inn,.bool ib,.int .i64 img] 150 (0,0)):=by rw[qy];exact za1 _ _
  have jh:Below wr.heap.size wr W4:=hb6.trans (hb4.mono hb6.size);have qx:=hid qy;clear qy;go_upto_region 4 with fail
  rw[<-qx.out];obtain⟨M,hM⟩:=Qyy (S.item x);have wm:s.data.toList=x:=yg.out;have vg:M.ok=true:=by rw[<-hM];exact dx.out.at_.2.1
  obtain⟨e1,e2,e3,e4⟩:ik=(M.kind.toNat:Int)/\inn=M.number/\ib=M.empty/\img=(M.zaa:Int):=by
   have:=hIs.out (by rw[wm,hM];exact vg);rw[wm,hM] at this;exact this
  have hin:k<(p0::ts).length:=by simpa using hk
  have hdrop:(p0::ts).drop k=(s,y)::(p0::ts).drop (k+1):=by
   rw[Qm hin];congr 1
   have:=hpH.out;rw[Qg hin] at this;exact Qy this
  obtain⟨us,yw⟩:=Qyy ((p0::ts).drop (k+1));rw[yw] at hdrop;have hl1:us.length+1=ts.length+1-k:=by rw[<-yw,Qf,Qd];omega
  have hdd:datL (((s,y):Ln)::us)=(datL (p0::ts)).drop k:=by rw[<-hdrop,zln]
  obtain⟨Ow,xg⟩:=Qyy (S.zah M (datL (((s,y):Ln)::us)));have qz:Hid (S.zah (S.item x) ((datL (p0::ts)).drop k)=Ow):=hid (by rw[<-hdd,hM];exact xg);obtain⟨g,hg⟩:=Qyy ((S.za2 d Ow).2);have hLl:1<=Ow.length/\k+Ow.length<=ts.length+1:=by
   have:=zl3 M s.data.toList (datL us);have e:S.zah M (s.data.toList::datL us)=Ow:=xg;rw[e,zas] at this;omega
  have hyz:y=z+(k:Int):=jw.out k (s,y) hpH.out;have hrow4:∀wx,After W4 wx->RowL wx b (o+k*2) (((s,y):Ln)::us)/\b<wx.heap.size/\wx.heap[w6.heap.size]?=some (.cells #[.int .u8 ik,.int .i64 inn,.bool ib,.int .i64 img] 150 (0,0)):=λwx hx=>by
   have h1:=qb.out.trans (jh.mono qb.out.size);have h2:=h1.trans (Below.mono hx h1.size);have h3:=((fq.out.below (dx.out.below.trans ((jh.trans (Below.mono hx jh.size)).mono (by have:=dx.out.size;omega))) (by omega)).drop k);rw[hdrop] at h3;exact⟨h3,Qh hbw h2.size,(hx.block _ (by omega)).trans hx4⟩
  have tq:Hid (∀wx,After W4 wx->Calls prog 142 #[.slice (some ⟨b,o+k*2,none⟩) (ts.length+1-k) (cap-k),.agg #[.int .u8 ik,.int .i64 inn,.bool ib,.int .i64 img]] wx λe w3=>∃ka kn kc ns,e=.returned (.tuple #[.agg #[.int .i64 0,.int .i64 7,.int .i64 0,.string ⟨#[]⟩,.string ⟨#[]⟩,.int .i64 y,.slice ka kn kc],.int .i64 (Ow.length:Nat),.bool g])/\(w3.cell? ⟨w6.heap.size,0,none⟩=some (.int .u8 ik)/\w3.cell? ⟨w6.heap.size,1,none⟩=some (.int .i64 inn)/\w3.cell? ⟨w6.heap.size,2,none⟩=some (.bool ib)/\w3.cell? ⟨w6.heap.size,3,none⟩=some (.int .i64 img))/\w6.heap.size<w3.heap.size/\W4.heap.size<=w3.heap.size/\wx.heap.size<=w3.heap.size/\Hid (RepN w3 (λq=>wx.heap.size<=q/\q<w3.heap.size) (.slice ka kn kc) ns/\MatL C (z+(k:Int)) (S.za2 d Ow).1 ns/\Below wx.heap.size wx w3)):=hid (λwx hx=>by
   obtain⟨h1,h2,h3⟩:=hrow4 wx hx;have hn2:=jw.out.drop k;rw[hdrop] at hn2;have hc:=zzw C d hRH.out b (o+k*2) (cap-k) ((s,y):Ln) us (z+(k:Int)) wx ik inn h1 hn2 h2 (by omega) M (by rw[<-hM,<-wm]) vg (by
    rw[hdd];have:=zhh (datL (p0::ts)) k;have:=hdH.out;omega)
   rw[hl1,xg,hg,<-e3,<-e4] at hc;refine hc.mono ?_;rintro e w3⟨kv,ns,rfl,hrep,hM9,hb3⟩;obtain⟨ka,kn,kc,rfl⟩:=hrep.form;have h4:=hx.trans (hb3.mono hx.size);have h5:=(hrow4 w3 h4).2.2;have h6:=h4.size;exact⟨ka,kn,kc,ns,by rw[hyz];rfl,⟨za0 h5 0 _ rfl,za0 h5 1 _ rfl,za0 h5 2 _ rfl,za0 h5 3 _ rfl⟩,by omega,h6,hb3.size,hid ⟨hrep,hM9.out,hb3⟩⟩)
  have x0:W4.cell? ⟨w6.heap.size,0,none⟩=some (.int .u8 ik):=za0 hx4 0 _ rfl;have x1:W4.cell? ⟨w6.heap.size,1,none⟩=some (.int .i64 inn):=za0 hx4 1 _ rfl;have x2:W4.cell? ⟨w6.heap.size,2,none⟩=some (.bool ib):=za0 hx4 2 _ rfl;have x3:W4.cell? ⟨w6.heap.size,3,none⟩=some (.int .i64 img):=za0 hx4 3 _ rfl;have hJ7:(k:Int)<=(ts.length:Int)+1:=by omega
  have hJ8:(k:Int)<=(cap:Int):=by omega
  have hne:¬cap=k:=by omega
  have hWl:w6.heap.size<W4.heap.size:=by omega
  have hn1:¬W4.heap.size=w6.heap.size:=by omega
  have hn2:¬w6.heap.size=W4.heap.size:=by omega
  have hs4H:=hid hs4;have gq:=hid jh;have hl1H:=hid hl1;have hdropH:=hid hdrop;have hddH:=hid hdd;have hgH:=hid hg;have xq:=hid hyz;clear hs4 hb4 hx4 jh hrow4 hdd hdrop hl1 yw xg hg hyz e1 e2 e3 e4 hM wm hIs hb6 hIt hcr hin;go_cut [10,11,12] (λs10 s11 s12 wx=>∃(pb:Nat) (ka:Option Addr) (kn kc:Nat) (ns:List Rn),s10=.pointer (some ⟨pb,0,none⟩)/\s11=.int .i64 (Ow.length:Nat)/\s12=.bool g/\Hid (OMid W4 pb y ka kn kc ns wx/\MatL C (z+(k:Int)) (S.za2 d Ow).1 ns))
  case first=>
   go_region_held3 (λw'=>w'.cell? ⟨w6.heap.size,0,none⟩=some (.int .u8 ik)/\w'.cell? ⟨w6.heap.size,1,none⟩=some (.int .i64 inn)/\w'.cell? ⟨w6.heap.size,2,none⟩=some (.bool ib)/\w'.cell? ⟨w6.heap.size,3,none⟩=some (.int .i64 img))
    ((refine⟨?_,?_,?_,?_⟩<;>(first|with_reducible assumption|go_keep)))
    ((go_at_call 142;refine(tq.out _ (by repeat (first|exact Below.refl _ _|refine Below.drew ?_|refine Below.alloc ?_ (by simp) _))).mono ?_;rintro e w3⟨ka,kn,kc,ns,rfl,⟨y0,y1,y2,y3⟩,hz3,hz4,hz5,hU⟩;obtain⟨hc3,hf3⟩:=zne hU.out.2.2;have hn3:¬w3.heap.size=w6.heap.size:=(by omega)))
   all_goals (go_wp2_with fail;go_meet)
   ·exact⟨_,ka,kn,kc,ns,rfl,rfl,rfl,hid ⟨z5w (by repeat (first|exact Below.refl _ _|refine Below.drew ?_|refine Below.alloc ?_ (by simp) _)) hU.out.1 hU.out.2.2,hU.out.2.1⟩⟩
   ·exact⟨_,ka,kn,kc,ns,rfl,rfl,rfl,hid ⟨z5y (by repeat (first|exact Below.refl _ _|refine Below.drew ?_|refine Below.alloc ?_ (by simp) _)) (by simp) (by exact za1 _ _) hU.out.1 hU.out.2.2,hU.out.2.1⟩⟩
  case rest=>
  obtain⟨pb,ka,kn,kc,ns,rfl,rfl,rfl,hmid⟩:=hcut;clear x0 x1 x2 x3 tq qx;have hn':=dx.out.num;subst hn';have hO:=hmid.out.1;have hplc:pb<wc.heap.size:=(Qq.1 hO.blk).1;have jk:Below wr.heap.size wr wc:=gq.out.trans (hO.below.mono gq.out.size);have zh:=dx.out.size;have hszc:wr.heap.size<=wc.heap.size:=jk.size;have hout:=(jk.block (w.heap.size+2) (by omega)).trans dx.out.out;have c6:wc.cell? ⟨w.heap.size+2,6,none⟩=some (.slice a ps.length cp):=za0 hout 6 _ rfl;have q0:wc.cell? ⟨pb,0,none⟩=some (.int .i64 0):=za0 hO.blk 0 _ rfl;have q1:wc.cell? ⟨pb,1,none⟩=some (.int .i64 7):=za0 hO.blk 1 _ rfl;have q2:wc.cell? ⟨pb,2,none⟩=some (.int .i64 0):=za0 hO.blk 2 _ rfl;have q3:wc.cell? ⟨pb,3,none⟩=some (.string ⟨#[]⟩):=za0 hO.blk 3 _ rfl;have q4:wc.cell? ⟨pb,4,none⟩=some (.string ⟨#[]⟩):=za0 hO.blk 4 _ rfl;have q5:wc.cell? ⟨pb,5,none⟩=some (.int .i64 y):=za0 hO.blk 5 _ rfl;have q6:wc.cell? ⟨pb,6,none⟩=some (.slice ka kn kc):=za0 hO.blk 6 _ rfl;obtain⟨i0,hi',hi0,hi1,hi2⟩:=info_parts Tryz.zmf;have hcnt:ps.length+1<=1000001:=by have:=dx.out.count;omega
  have hown2:Hid (∀ob,(wc.alloc ob).ownsRow (w.heap.size+3) 118 7 (.slice a ps.length cp) ps.length (zca ps)):=hid (λob=>(dx.out.row.own.kept (Below.zfn jk) (by
   cases h:(Value.slice a ps.length cp).ownBlock with
   | none=>exact .inl rfl
   | some g=>exact .inr (by simp))).alloc ob)
  have hnew:Hid (∀j v,([.int .i64 0,.int .i64 7,.int .i64 0,.string ⟨#[]⟩,.string ⟨#[]⟩,.int .i64 y,.slice ka kn kc]:List Value)[j]?=some v->(wc.alloc (.cells #[.int .i64 0,.int .i64 7,.int .i64 0,.string ⟨#[]⟩,.string ⟨#[]⟩,.int .i64 y,.slice ka kn kc] 118)).cell? ((⟨wc.heap.size,0,none⟩:Addr).add j)=some v):=hid (λj v hj=>World.news_of_block (za1 _ _) j v (by exact hj));have hone:Hid (∀v∈([.int .i64 0,.int .i64 7,.int .i64 0,.string ⟨#[]⟩,.string ⟨#[]⟩,.int .i64 y,.slice ka kn kc]:List Value),v.oneCell'=true):=hid (by
   intro v hv;simp at hv;rcases hv with rfl|rfl|rfl|rfl|rfl|rfl|rfl<;>rfl)
  have hstep:Hid (∀ob g' bg w2,w2.ownsRow (w.heap.size+3) 118 7 (.slice (some ⟨g',0,none⟩) (ps.length+1) bg) (ps.length+1) (zca ps++[.int .i64 0,.int .i64 7,.int .i64 0,.string ⟨#[]⟩,.string ⟨#[]⟩,.int .i64 y,.slice ka kn kc])->(wc.alloc ob).grownBy w2 (Value.slice a ps.length cp).ownBlock->((Value.slice a ps.length cp).ownBlock=some g'\/wc.heap.size<=g')->w2.heap[w.heap.size+2]?=some (.cells #[.int .i64 0,.int .i64 6,.int .i64 m.number,.string ⟨#[]⟩,.string (S.B (zc4 6 [] lo)),.int .i64 0,.slice a ps.length cp] 118 (0,0))/\∃qs:List (Rn × Value),qs.length=ps.length+1/\LMid C d m w W3 (p0::ts) z k (some ⟨g',0,none⟩) bg lo lo Ow qs bs x (w2.setCell ⟨w.heap.size+2,6,none⟩ (.slice (some ⟨g',0,none⟩) (ps.length+1) bg))):=hid (λob g' bg w2 ho hgw hat=>by
   have hbX:Below wc.heap.size wc (wc.alloc ob):=(Below.refl _ _).alloc (Qc _) _;have hN:=dx.out.row.step (t:=.nd 7 0 [] [] y ns) (kv:=.slice ka kn kc) zh jk (hO.rep.move (λq hq=>⟨Qj gq.out.size hq.1,hq.2⟩) (λ_ _=>rfl)) ho hbX hgw hat;have hx2:w2.heap[w.heap.size+2]?=_:=(hgw.block (w.heap.size+2) (by have:=hbX.size;omega) (λe=>by have:=dx.out.row.own.lt _ e.symm;omega)).trans ((hbX.block (w.heap.size+2) (by omega)).trans hout);refine⟨hx2,ps++[(.nd 7 0 [] [] y ns,.slice ka kn kc)],by simp,dx.out.at_,?_,by simp[dx.out.same],by have:=dx.out.count;simp;omega,?_,?_,?_,?_⟩
   ·rw[Qv];refine dx.out.mat.append ?_;simp only[Qs,List.map_nil,MatL,and_true,zor,MatB];refine⟨trivial,trivial,trivial,by first|trivial|rfl,xq.out,?_⟩
    rw[if_neg (by omega)];exact hmid.out.2
   ·exact hN.z1r (w.heap.size+2) 6 (by omega) _
   ·rw[Qa];exact za3 (cs:=[.int .i64 0,.int .i64 6,.int .i64 m.number,.string ⟨#[]⟩,.string (S.B (zc4 6 [] lo)),.int .i64 0,.slice a ps.length cp]) hx2 6 _
   ·exact(dx.out.below.trans (hN.below.mono (by omega))).setCell (p:=⟨w.heap.size+2,6,none⟩) (Qc _) _
   ·have h1:=hN.below.size;have h2:(w2.setCell ⟨w.heap.size+2,6,none⟩ (.slice (some ⟨g',0,none⟩) (ps.length+1) bg)).heap.size=w2.heap.size:=(by simp[World.setCell]);omega)
  have hwcl:w.heap.size+3<=wc.heap.size:=by omega
  have hoL:w.heap.size+2<wc.heap.size:=by omega
  obtain⟨K,hK⟩:=Qyy (k+Ow.length);have hKi:IntKind.i64.wrap ((k:Int)+(Ow.length:Int))=(K:Int):=by rw[IntKind.wrap_i64];omega
  have hKi2:(k:Int)+(Ow.length:Int)=(K:Int):=by omega
  have hKl:K<=ts.length+1:=by omega
  have lg:=hid hK;have vk:=hid hLl;clear hK hO jk hout hLl gq hmid;go_wp2_with (at_builtin;refine wpList_append_lies _ (by rfl) _ _ 80 (by rfl) (w.heap.size+3) 118 i0 (.agg #[.int .i64 0,.int .i64 0,.int .i64 0,.string ⟨#[]⟩,.string ⟨#[]⟩,.int .i64 0,.slice none 0 0]) 7 88 underlying80 hi' hi0 hi1 hi2 (by rfl) (by omega) (.slice a ps.length cp) ps.length (zca ps) (by rfl) (hown2.out _) ⟨wc.heap.size,0,none⟩ 1 1 [.int .i64 0,.int .i64 7,.int .i64 0,.string ⟨#[]⟩,.string ⟨#[]⟩,.int .i64 y,.slice ka kn kc] (by rfl) (by rfl) hnew.out hone.out (by omega) (by unfold maxLen;omega) (by omega) (by simp;omega) (wc.heap.size+1) (by simp) ?_)
  intro g' bg w2 hown1 hgrow hat zy;obtain⟨hx2,qs,hqs,hLM⟩:=hstep.out _ g' bg w2 hown1 hgrow (by rcases hat with h|h;exact .inl h;exact .inr (by omega))
  have d6:w2.cell? ⟨w.heap.size+2,6,none⟩=some (.slice a ps.length cp):=za0 hx2 6 _ rfl;have g6:=za7 hx2;obtain⟨W5,hW5⟩:=Qzz (w2.setCell ⟨w.heap.size+2,6,none⟩ (.slice (some ⟨g',0,none⟩) (ps.length+1) bg));rw[<-hW5] at hLM;have jd:=hid hLM;have qp:=hid hW5;have hqsH:=hid hqs;clear hown1 hgrow hat zy hLM hW5 hqs hx2 hstep hnew hone hown2;go_upto_region 6 with fail
  rw[<-qp.out];clear d6 g6 c6 q0 q1 q2 q3 q4 q5 q6 qp hi' hi0 hi1 hi2;have hb5:Below w.heap.size w W5:=kr.out.trans (jd.out.below.mono (by omega));have hbW5:b<W5.heap.size:=Qh hbw hb5.size;have hs5:w.heap.size+3<=W5.heap.size:=jd.out.size;have dh:Hid (RowL W5 b o (p0::ts)):=hid (fq.out.below jd.out.below (by omega));have hb5H:=hid hb5;clear hb5;go_upto_region 8 with fail
  go_loop [13] (λnv=>∃i:Nat,K+i<=ts.length+1/\nv=.int .i64 ((K:Int)+(i:Int))/\Hid (∀j,j<i->(((datL (p0::ts)).drop K)[j]?.map S.blank)=some true)) (λnv=>ts.length+1-(intOf nv).toNat)
  case atStart=>exact⟨0,by omega,by first|rfl|simp,hid (by intro j hj;omega)⟩
  case round=>
  obtain⟨i,hi,rfl,hall⟩:=hrel;have hJ2:(0:Int)<=(K:Int)+(i:Int):=by omega
  have hton:((K:Int)+(i:Int)).toNat=K+i:=by omega
  by_cases hblk:(((datL (p0::ts)).drop K)[i]?.map S.blank)=some true
  ·rw[Qn] at hblk;obtain⟨p,hp⟩:∃p,(p0::ts)[K+i]?=some p:=by
    cases hp:(p0::ts)[K+i]? with
    | none=>
     have:(datL (p0::ts))[K+i]?=none:=by
      rw[List.getElem?_eq_none_iff] at hp ⊢;rw[zas];exact hp
     rw[this] at hblk;simp at hblk
    | some p=>exact⟨p,rfl⟩
   have hlt:=(Qb.1 hp).1;simp only[Qd] at hlt;rw[zcd _ _ p hp,Option.map_some] at hblk;have hbl:=Qy hblk;have hcA:=(dh.out.1 (K+i) p hp).1;have hsz:=dh.out.size (K+i) p hp;have hBl:=zc7 p.1 W5 hsz;rw[hbl] at hBl;have wh:Hid (Calls prog 67 #[.string p.1] W5 λe w'=>e=.returned (.bool true)/\W5=w'):=hid (hBl.mono (λe w' ⟨h1,h2⟩=>⟨h1,h2.symm⟩));have qj:Hid (∀j,j<i+1->(((datL (p0::ts)).drop K)[j]?.map S.blank)=some true):=hid (by
    intro j hj;by_cases e:j=i
    ·subst e;rw[Qn,zcd _ _ p hp,Option.map_some,hbl]
    ·exact hall.out j (by omega))
   obtain⟨s9,y9⟩:=p;dsimp only at hcA hsz wh;have hJ3:(K:Int)+(i:Int)<(ts.length:Int)+1:=by omega
   clear hp hblk hbl hBl;go_wp2_with (fail);refine wh.out.mono ?_;rintro e w'⟨rfl,rfl⟩;go_wp2;exact⟨⟨i+1,by omega,by go_num,qj⟩,by simp[intOf];omega⟩
  have hcb:Hid (S.za6 ((datL (p0::ts)).drop K)=i):=hid (S.ze7 _ i hall.out hblk);have qg:=hid hblk;clear hblk hall;go_upto_region 8 with fail
  go_cut [61] (λs61 wx=>s61=.bool false/\W5=wx)
  case first=>
   by_cases hlt:K+i<ts.length+1
   ·have hlt2:K+i<(p0::ts).length:=(by simpa using hlt);obtain⟨p,hp⟩:∃p,(p0::ts)[K+i]?=some p:=⟨(p0::ts)[K+i],Qg hlt2⟩;have hcA:=(dh.out.1 (K+i) p hp).1;have hsz:=dh.out.size (K+i) p hp;have hBl:=zc7 p.1 W5 hsz;have hbl:S.blank p.1.data.toList=false:=by
     have:=qg.out;rw[Qn,zcd _ _ p hp,Option.map_some] at this;cases h:S.blank p.1.data.toList with
     | false=>rfl
     | true=>rw[h] at this;exact absurd rfl this
    rw[hbl] at hBl;have wh:Hid (Calls prog 67 #[.string p.1] W5 λe w'=>e=.returned (.bool false)/\W5=w'):=hid (hBl.mono (λe w' ⟨h1,h2⟩=>⟨h1,h2.symm⟩));obtain⟨s9,y9⟩:=p;dsimp only at hcA hsz wh;have hJ3:(K:Int)+(i:Int)<(ts.length:Int)+1:=(by omega);clear hp hbl hBl;go_wp2_with (fail);refine wh.out.mono ?_;rintro e w'⟨rfl,rfl⟩;go_wp2;go_meet;exact⟨rfl,rfl⟩
   ·have hJ3:¬(K:Int)+(i:Int)<(ts.length:Int)+1:=(by omega);go_wp2;go_meet;exact⟨rfl,rfl⟩
  case rest=>
  obtain⟨rfl,rfl⟩:=hcut;obtain⟨go2,ny⟩:=Qyy ((S.zaw m.kind ((datL (p0::ts)).drop (K+i))).ok);obtain⟨go1,pq⟩:=Qyy (decide ((K:Int)+(i:Int)<(ts.length:Int)+1));have kg:=hid pq;have dw:=hid ny;clear ny;have yh:Hid (W5.heap[w.heap.size]?=some (.cells #[.int .u8 (m.kind.toNat:Int),.int .i64 m.number,.bool m.empty,.int .i64 (m.zaa:Nat)] 150 (0,0))):=hid ((jd.out.below.block w.heap.size (by omega)).trans yj.out);go_upto_if 68 with fail
  go_cut [14] (λs14 wx=>s14=.bool go2/\Hid (Below W5.heap.size W5 wx))
  case first=>
   cases go1
   ·have he:Hid (go2=false):=hid (by
     have h1:=of_decide_eq_false kg.out;rw[<-dw.out,Qw (by rw[zas,Qd];omega)];rfl)
    go_wp2;go_meet;exact⟨by rw[he.out],hid (Below.refl _ _)⟩
   ·have hlt:K+i<ts.length+1:=(by have:=of_decide_eq_true kg.out;omega);have hlt2:K+i<(p0::ts).length:=(by simpa using hlt);obtain⟨p,hp⟩:∃p,(p0::ts)[K+i]?=some p:=⟨(p0::ts)[K+i],Qg hlt2⟩;have hcA:=(dh.out.1 (K+i) p hp).1;have hsz:=dh.out.size (K+i) p hp;have hdr:(datL (p0::ts)).drop (K+i)=p.1.data.toList::(datL (p0::ts)).drop (K+i+1):=by
     have h1:=zcd _ _ p hp;obtain⟨h2,h3⟩:=Qb.1 h1;rw[Qm h2,h3]
    obtain⟨ru,zn⟩:=Qyy (S.zbz p.1.data.toList);obtain⟨lq,jq⟩:=Qyy ((S.item p.1.data.toList).ok);have hgo:Hid (go2=if ru=true then false else (lq&&decide ((S.item p.1.data.toList).kind=m.kind))):=hid (by
     rw[<-dw.out,hdr];simp only[S.zaw];rw[zn];split
     ·rfl
     ·rw[<-jq])
    have vv:Hid (Calls prog 93 #[.string p.1] W5 λe w'=>∃(k n:Int) (b:Bool) (mg:Int),e=.returned (.tuple #[.agg #[.int .u8 k,.int .i64 n,.bool b,.int .i64 mg],.bool lq])/\Hid (z1s p.1.data.toList k n b mg)/\Below W5.heap.size W5 w'):=hid ((zio p.1 W5 hsz).mono (by
     rintro e w'⟨k,n,b,mg,rfl,h2,h3⟩;exact⟨k,n,b,mg,by rw[jq],h2,h3⟩))
    have hRu:Hid (∀wx,Calls prog 89 #[.string p.1] wx λe w'=>e=.returned (.bool ru)/\wx=w'):=hid (λwx=>by
     have:=zmj p.1 wx hsz;rw[zn] at this;exact this.mono (λe w' ⟨h1,h2⟩=>⟨h1,h2.symm⟩))
    have jy:=hid jq;obtain⟨s9,y9⟩:=p;dsimp only at hcA hsz vv hRu hgo jy;have hJ3:(K:Int)+(i:Int)<(ts.length:Int)+1:=(by omega);clear hp hdr zn jq hlt hlt2;go_wp2_with (fail);refine vv.out.mono ?_;rintro e w7⟨mh,in2,ib2,im2,rfl,vw,hb7⟩;obtain⟨W8,qm⟩:=Qzz (w7.alloc (.cells #[.int .u8 mh,.int .i64 in2,.bool ib2,.int .i64 im2] 150));have hs8:W8.heap.size=w7.heap.size+1:=(by rw[qm];simp);have qh:Below w7.heap.size w7 W8:=(by rw[qm];exact(Below.refl _ _).alloc (Qc _) _);have hx8:W8.heap[w7.heap.size]?=some (.cells #[.int .u8 mh,.int .i64 in2,.bool ib2,.int .i64 im2] 150 (0,0)):=(by rw[qm];exact za1 _ _);have jm:Below W5.heap.size W5 W8:=hb7.trans (qh.mono hb7.size);have hc8:W8.cell? ⟨b,o+(K+i)*2,none⟩=some (.string s9):=(jm.cell (p:=⟨b,o+(K+i)*2,none⟩) hbW5).trans hcA;have k1:W8.cell? ⟨w7.heap.size,0,none⟩=some (.int .u8 mh):=za0 hx8 0 _ rfl;have k2:W8.cell? ⟨w.heap.size,0,none⟩=some (.int .u8 (m.kind.toNat:Int)):=za0 ((jm.block w.heap.size (by omega)).trans yh.out) 0 _ rfl;have hl7:w7.heap.size<W8.heap.size:=(by omega);have hlw:w.heap.size<W8.heap.size:=(by have:=jm.size;omega);have hW8H:=hid qm;have jl:=hid jm;clear qm hs8 qh hx8 jm hb7 hcA;go_upto_region 13 with fail
    rw[<-hW8H.out];go_wp2_with (fail);refine(hRu.out _).mono ?_;rintro e w'⟨rfl,rfl⟩;cases lq
    ·have he:Hid (go2=false):=hid (by rw[hgo.out];cases ru<;>rfl);go_wp2;go_meet;exact⟨by rw[he.out],jl⟩
    ·obtain⟨kq,hkq⟩:=Qyy (decide ((S.item s9.data.toList).kind=m.kind));have hik:mh=((S.item s9.data.toList).kind.toNat:Int):=(vw.out jy.out).1;have e1:((mh:Int) == (m.kind.toNat:Int))=kq:=by
      rw[<-hkq,Bool.eq_iff_iff,beq_iff_eq,decide_eq_true_iff,hik,<-Qk];omega
     have ng:Hid (go2=(kq&&!ru)):=hid (by rw[hgo.out,<-hkq];cases ru<;>simp);clear hkq hik hgo vw;cases kq
     ·have he:Hid (go2=false):=hid (by rw[ng.out];rfl);go_wp2;go_meet;exact⟨by rw[he.out],jl⟩
     ·have he:Hid (go2 = !ru):=hid (by rw[ng.out];rfl);go_wp2;go_meet;exact⟨by rw[he.out],jl⟩
  case rest=>
  obtain⟨rfl,hbc⟩:=hcut;have jg:=hid (jd.out.after hbc.out);obtain⟨lb,hlb⟩:∃lb:Bool,(g||(go2&&decide (0<i)))=lb:=⟨_,rfl⟩;have gy:=hid hlb;clear hlb pq hbc dh;go_upto_region 15 with fail
  go_cut [104] (λs104 wx=>s104=.bool lb/\wc=wx)
  case first=>
   cases g
   ·cases go2
    ·have he:Hid (lb=false):=hid (by rw[<-gy.out];rfl);go_wp2;go_meet;exact⟨by rw[he.out],rfl⟩
    ·by_cases h1:0<i
     ·have h1':(K:Int)<(K:Int)+(i:Int):=(by omega);have h1'':(0:Int)<(i:Int):=(by omega);have he:Hid (lb=true):=hid (by rw[<-gy.out,decide_eq_true h1];rfl);go_wp2;go_meet;exact⟨by rw[he.out],rfl⟩
     ·have h1':¬(K:Int)<(K:Int)+(i:Int):=(by omega);have h1'':¬(0:Int)<(i:Int):=(by omega);have he:Hid (lb=false):=hid (by rw[<-gy.out,decide_eq_false h1];rfl);go_wp2;go_meet;exact⟨by rw[he.out],rfl⟩
   ·have he:Hid (lb=true):=hid (by rw[<-gy.out];rfl);go_wp2;go_meet;exact⟨by rw[he.out],rfl⟩
  case rest=>
  obtain⟨rfl,rfl⟩:=hcut;go_upto_if 104 with fail
  go_cut [14] (λs14 wx=>s14=.bool go2/\Hid (LMid C d m w W3 (p0::ts) z k (some ⟨g',0,none⟩) bg lo (lo||lb) Ow qs bs x wx))
  case first=>
   cases lb
   ·go_wp2;go_meet;exact⟨rfl,hid (by rw[Bool.or_false];exact jg.out)⟩
   ·have d4:wc.cell? ⟨w.heap.size+2,4,none⟩=some (.string (S.B (zc4 6 [] lo))):=za0 jg.out.out 4 _ rfl;have g4:=za7 jg.out.out;have hlc:w.heap.size+2<wc.heap.size:=(by have:=jg.out.size;omega);go_wp2;go_meet;exact⟨rfl,hid (by rw[Bool.or_true];exact jg.out.loose)⟩
  case rest=>
  obtain⟨rfl,hL3⟩:=hcut;have hin9:Hid (go2=true->K+i<ts.length+1):=hid (λh=>by
   have h1:=S.zmg _ _ (dw.out.trans h);rw[Qf,zas,Qd] at h1;omega)
  clear jg jd;cases go2
  ·have hE:=hid (hL3.out.at_.last qz.out (gap:=i) (by rw[lg.out];exact hcb.out) (by rw[lg.out];exact dw.out));have hlo:Hid ((lo||lb)=(lo||(S.za2 d Ow).2)):=hid (by rw[<-gy.out,hgH.out];simp);obtain⟨tx,htx⟩:=Qyy (S.B (zc4 6 [] (lo||lb)));have hbL:=hL3.out.below;have hsL:=hL3.out.size;have hxo:=hL3.out.out;rw[htx] at hxo;have hx1:=(hbL.block (w.heap.size+1) (by omega)).trans yc.out;have e0:=za0 hxo 0 _ rfl;have e1:=za0 hxo 1 _ rfl;have e2:=za0 hxo 2 _ rfl;have e3:=za0 hxo 3 _ rfl;have e4:=za0 hxo 4 _ rfl;have e5:=za0 hxo 5 _ rfl;have e6:=za0 hxo 6 _ rfl;have d0:=za0 hx1 0 _ rfl;have d1:=za0 hx1 1 _ rfl;have d2:=za0 hx1 2 _ rfl;have d3:=za0 hx1 3 _ rfl;have d4:=za0 hx1 4 _ rfl;have d5:=za0 hx1 5 _ rfl;have d6:=za0 hx1 6 _ rfl;have g0:=za7 hx1;have hl1:w.heap.size+1<wc.heap.size:=by omega
   have hl2:w.heap.size+2<wc.heap.size:=by omega
   have pz:Below w.heap.size w wc:=kr.out.trans (hbL.mono (by omega));have hrep:RepN wc (λx=>w.heap.size+3<=x/\x<wc.heap.size) (.slice (some ⟨g',0,none⟩) qs.length bg) (qs.map Prod.fst):=zgp hL3.out.row.own (λg hg=>hL3.out.row.own.lt g hg) (λi p hi=>(hL3.out.row.kids i p hi).move (λx hx=>⟨hx.1,hx.2.1⟩) (λ_ _=>rfl));have hzz:=hid (set7 hx1 (.int .i64 0) (.int .i64 6) (.int .i64 m.number) (.string ⟨#[]⟩) (.string tx) (.int .i64 0) (.slice (some ⟨g',0,none⟩) qs.length bg));have hbz:=hid (zbb (N:=w.heap.size+1) pz (by omega) (.int .i64 0) (.int .i64 6) (.int .i64 m.number) (.string ⟨#[]⟩) (.string tx) (.int .i64 0) (.slice (some ⟨g',0,none⟩) qs.length bg));have hrz:=hid (zcw hrep (N:=w.heap.size+1) (λx hx e=>by omega) (.int .i64 0) (.int .i64 6) (.int .i64 m.number) (.string ⟨#[]⟩) (.string tx) (.int .i64 0) (.slice (some ⟨g',0,none⟩) qs.length bg));have zx:=hid hL3.out.mat;have yx:=hid htx;clear hbL hsL hxo hx1 pz hrep htx hL3;go_wp2;refine bodyPost_ret (v:=.tuple #[.agg #[.int .i64 0,.int .i64 6,.int .i64 m.number,.string ⟨#[]⟩,.string tx,.int .i64 0,.slice (some ⟨g',0,none⟩) qs.length bg],.int .i64 (K:Int)]) (by have z0:=za0 hzz.out 0 _ rfl;have z1:=za0 hzz.out 1 _ rfl;have z2:=za0 hzz.out 2 _ rfl;have z3:=za0 hzz.out 3 _ rfl;have z4:=za0 hzz.out 4 _ rfl;have z5:=za0 hzz.out 5 _ rfl;have z6:=za0 hzz.out 6 _ rfl;simp[results,results98,go_sem,z0,z1,z2,z3,z4,z5,z6]) rfl ?_;refine⟨.slice (some ⟨g',0,none⟩) qs.length bg,qs.map Prod.fst,?_,hrz.out.move (λx hx=>⟨by have:=hx.1;omega,by rw[zho];exact hx.2⟩) (λ_ _=>rfl),hid (by rw[hE.out];exact zx.out),hbz.out⟩;rw[hE.out,<-yx.out,hlo.out,lg.out];rfl
  ·have hlo:Hid ((lo||lb)=(lo||(S.za2 d Ow).2||decide (0<i))):=hid (by rw[<-gy.out,hgH.out];simp[Bool.or_assoc]);have hlt:=hin9.out rfl;have hnext:Hid (∃y,LRel C d m w W3 (p0::ts) z (K+i) qs.length (some ⟨g',0,none⟩) bg (lo||lb) qs (bs++[zor d k Ow]) y wc):=hid (by
    have:=hL3.out.next qz.out (gap:=i) (by rw[lg.out];exact hcb.out) (by rw[lg.out];exact dw.out) vk.out.1 hlo.out;rw[lg.out] at this;exact this)
   clear hL3;go_wp2;go_roundw
   case rel=>
    obtain⟨y9,h9⟩:=hnext.out;exact⟨K+i,qs.length,some ⟨g',0,none⟩,bg,lo||lb,hlt,by go_num,hid ⟨qs,_,y9,h9⟩⟩
   case measure=>simp[intOf];have:=vk.out;have:=lg.out;omega
end Go.Proofs.YtlojgpkajkedeaaGreatDoor
