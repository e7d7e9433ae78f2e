import Derived.Test.YtlojgpkajkedeaaGreatDoorNE24
import Derived.Test.YtlojgpkajkedeaaGreatDoorNTH
import Derived.Test.YtlojgpkajkedeaaGreatDoorNPI
import Derived.Maps.AppendAt
import Derived.Deep.AppendLies
set_option maxHeartbeats 16000000
set_option maxRecDepth 100000
namespace Go.Proofs.YtlojgpkajkedeaaGreatDoor
open Go.RowKit Go.Proofs.Tryz
theorem zi4 {P:Program}(w:World){ops:Array Oper}{rest:List Oper}{o:Oper}{a:Act}{Q:Exit->Act->World->Prop}(hgd:o.guard=none)(s x:Operand)(t:TypeId)
  (ho:o.op=.call { callee:=.builtin .append,args:=#[s,x],argTypes:=#[t,t] })
  (base:Nat) (e:TypeId) (i:TypeInfo) (z:Value) (size bytes:Nat) (ht:P.underlying t=some (.slice e)) (hi:P.info? e=some i) (hz:i.zero=some z)
  (hsize:i.size=size) (hby:i.bytes=bytes) (hzs:z.cells.size=size) (hsz:0<size)
  (v:Value) (n:Nat) (xs:List Value) (hs:a.eval s=v) (hown:w.ownsRow base e size v n xs)
  (ad:Addr) (m c:Nat) (news:List Value) (hx:a.eval x=.slice (some ad) m c) (hl:news.length=m*size) (hnews:∀j u,news[j]?=some u->w.cell? (ad.add j)=some u) (h1:∀u∈news,u.oneCell'=true)
  (hm:0<m) (h63:n+m<=maxLen) (hbytes:(n+m)*bytes<=140737488355328) (hbase:base<=w.heap.size)
  (h:∀g cap w',w'.ownsRow base e size (.slice (some ⟨g,0,none⟩) (n+m) cap) (n+m) (xs++news)->w'.ownsRow base e size v n xs->w.grownBy w' v.ownBlock->(v.ownBlock=some g\/g=w.heap.size)->g<w'.heap.size->wpList P ops Q rest (a.put o.dst (.slice (some ⟨g,0,none⟩) (n+m) cap)) w'):wpList P ops Q (o::rest) a w:=by
 obtain⟨v',w',hr,h2,h3,h4,h5⟩:=run_append_own_at (P:=P) w base t o.type e i z size bytes ht hi hz hsize hby hzs hsz v n xs hown ad m c news hl hnews h1 h63 hbytes hbase;have hkeep:w'.ownsRow base e size v n xs:=by
  subst hsize;rcases hown.2 with ⟨rfl,rfl⟩|⟨g,cap,cur,rfl,hbg,hg,hnc,hcm,hcs,htake⟩
  ·have:xs=[]:=List.eq_nil_of_length_eq_zero (by simpa using hown.1);subst this;exact World.ownsRow_nil _ _ _ _
  ·by_cases hroom:n+m<=cap
   ·have hfit:n*i.size+news.length<=cur.size:=(by rw[hl,hcs,<-Nat.add_mul];exact Nat.mul_le_mul_right _ hroom);have hr2:=run_append_room (P:=P) w t o.type e i ht hi g n cap cur hg ad m c news hl hnews h1 hroom hfit;rw[hr] at hr2;injection hr2 with e1 e2
    subst e2;refine⟨hown.1,.inr ⟨g,cap,_,rfl,hbg,setRow_heap w g cur _ e _ hg,hnc,hcm,?_,?_⟩⟩
    ·simp only[Qba,Qa,Ql,Qf,Array.length_toList];omega
    ·rw[<-htake];simp only[Qp];rw[Qbc (by rw[Ql,Array.length_toList];omega),List.take_take,Nat.min_self]
   ·have holds:∀j u,xs[j]?=some u->w.cell? ((⟨g,0,none⟩:Addr).add j)=some u:=hown.cells (g:=g) rfl;have hr2:=run_append_grow (P:=P) w t o.type e i z ht hi hz ⟨g,0,none⟩ n cap xs hown.1 holds ad m c news hl hnews (by omega) (by simp only[maxLen] at h63;omega) (growslice_fits (by omega) (by rw[hby];exact hbytes));rw[hr] at hr2;injection hr2 with e1 e2
    subst e2;refine⟨hown.1,.inr ⟨g,cap,cur,rfl,hbg,?_,hnc,hcm,hcs,htake⟩⟩;rw[<-hg];exact Below.heap_alloc w.drew _ g (Qq.1 hg).1
 have hsome:∃g cap,v'=.slice (some ⟨g,0,none⟩) (n+m) cap/\g<w'.heap.size:=by
  rcases h2.2 with ⟨h6,h7⟩|⟨g,cap,cur,h6,_,h8,_⟩
  ·omega
  ·exact⟨g,cap,h6,(Qq.1 h8).1⟩
 obtain⟨g,cap,rfl,bg⟩:=hsome;have hat:v.ownBlock=some g\/g=w.heap.size:=by
  rcases h5 with h5|h5
  ·exact .inl (by rw[<-h5];rfl)
  ·exact .inr (by simpa [Value.ownBlock] using h5)
 refine wpList_plain hgd λK hK=>?_;unfold Oper.wp execOp;simp only[ho,resolve,invoke,builtin,Sem.run_bind,Sem.run_pure,Result.andThen_ok,List.map_toArray,Qs,List.map_nil,hs,hx,hr];exact hK _ _ (h g cap w' h2 hkeep h3 hat bg)
theorem zjj (w:World)(g i:Nat)(u:Value):w.grownBy (w.setCell ⟨g,i,none⟩ u) (some g):=
 ⟨rfl,rfl,rfl,by simp[World.setCell],λk _ hne=>zan rfl ⟨g,i,none⟩ (λe=>hne (by rw[e])) u⟩
theorem zwj {B g cp:Nat}{l:List Tl}{w:World}(h:zct B (some ⟨g,0,none⟩) cp l w)(i:Nat):w.frozen? ⟨g,i,none⟩=false:=by
 rcases h.2 with ⟨h,_⟩|⟨g',cap,cur,he,_,hb,_⟩
 ·exact absurd h (by simp)
 ·obtain rfl:g=g':=by simp at he;exact he.1
  exact za7 hb i
theorem zm1 (a b:List Tl):zao (a++b)=zao a++zao b:=by simp[zao]
theorem znc (l:List Tl):(zao l).length=l.length*3:=by
 induction l with
 | nil=>rfl
 | cons x r ih=>
  have e:zao (x::r)=three x++zao r:=by simp[zao]
  rw[e,Qa,ih,Qd];simp[three];omega
theorem zsa (l:List Tl)(i j:Nat)(x:Tl)(h:l[i]?=some x)(hj:j<3):(zao l)[3*i+j]?=(three x)[j]?:=by
 induction l generalizing i with
 | nil=>simp at h
 | cons q r ih=>
  have hl:(three q).length=3:=rfl;cases i with
  | zero=>
   simp at h;subst h;show (three q++zao r)[3*0+j]?=_;rw[Qbd (by rw[hl];omega)];simp
  | succ i=>
   have:=ih i (by simpa using h);show (three q++zao r)[3*(i+1)+j]?=_;rw[Qu (by rw[hl];omega),hl,<-this];congr 1;omega
theorem zph {B:Nat}{a:Option Addr}{cp:Nat}{l:List Tl}{w:World}(h:zct B a cp l w)(i:Nat)(x:Tl)(hi:l[i]?=some x):∃g,a=some ⟨g,0,none⟩/\B<=g/\g<w.heap.size/\w.cell? ⟨g,i*3,none⟩=some (.int .i64 x.level)/\w.cell? ⟨g,i*3+1,none⟩=some (.string (S.B x.text))/\w.cell? ⟨g,i*3+2,none⟩=some (.int .i64 x.line):=by
 have hpos:0<l.length:=by have:=(Qb.1 hi).1;omega
 rcases h.2 with ⟨_,h2⟩|⟨g,cap,cur,h1,h2,h3,h4,h5,h6,h7⟩
 ·omega
 ·injection h1 with e1 e2 e3
  subst e1;have hc:∀j u,(three x)[j]?=some u->w.cell? ⟨g,i*3+j,none⟩=some u:=by
   intro j u hu;have hj:j<3:=by have:=(Qb.1 hu).1;simpa [three] using this
   have hx:=zsa l i j x hi hj;rw[hu] at hx;have:=World.ownsRow.cells h (g:=g) rfl (3*i+j) u hx;have ha:(⟨g,0,none⟩:Addr).add (3*i+j)=⟨g,i*3+j,none⟩:=by
    rw[Nat.mul_comm];simp only[Addr.add];split
    ·rename_i h;simp<;>omega
    ·simp<;>omega
   rw[<-ha];exact this
  exact⟨g,rfl,h2,(Qq.1 h3).1,hc 0 _ rfl,hc 1 _ rfl,hc 2 _ rfl⟩
theorem zsv (l:List Tl)(k:Nat)(x y:Tl)(h:l[k]?=some y):zao (l.set k x)=(((zao l).set (k*3) (.int .i64 x.level)).set (k*3+1) (.string (S.B x.text))).set (k*3+2) (.int .i64 x.line):=by
 have hk:=(Qb.1 h).1;have hs:l=l.take k++y::l.drop (k+1):=by
  conv=>lhs;rw[<-List.take_append_drop k l]
  rw[Qm hk];rw[Qg hk] at h;rw[Qy h]
 have hl:(zao (l.take k)).length=k*3:=by rw[znc,Ql,Nat.min_eq_left (by omega)]
 have hc:∀(z:Tl) (r:List Tl),zao (z::r)=three z++zao r:=λz r=>by simp[zao]
 have h1:zao l=zao (l.take k)++(three y++zao (l.drop (k+1))):=by
  conv=>lhs;rw[hs]
  rw[zm1,hc]
 have h2:zao (l.set k x)=zao (l.take k)++(three x++zao (l.drop (k+1))):=by
  have:l.set k x=l.take k++x::l.drop (k+1):=by
   conv=>lhs;rw[hs]
   rw[List.set_append_right _ _ (by rw[Ql];omega),Ql,Nat.min_eq_left (by omega),Nat.sub_self];rfl
  rw[this,zm1,hc]
 rw[h2,h1];rw[List.set_append_right _ _ (by omega),List.set_append_right _ _ (by omega),List.set_append_right _ _ (by omega),hl,Nat.sub_self,show k*3+1-k*3=1 from by omega,show k*3+2-k*3=2 from by omega];rfl
theorem zz3 {B g cp:Nat}{l:List Tl}{w:World}(h:zct B (some ⟨g,0,none⟩) cp l w)(k:Nat)(x y:Tl)(hk:l[k]?=some y):zct B (some ⟨g,0,none⟩) cp (l.set k x) (((w.setCell ⟨g,k*3,none⟩ (.int .i64 x.level)).setCell ⟨g,k*3+1,none⟩ (.string (S.B x.text))).setCell ⟨g,k*3+2,none⟩ (.int .i64 x.line)) /\
  w.grownBy (((w.setCell ⟨g,k*3,none⟩ (.int .i64 x.level)).setCell ⟨g,k*3+1,none⟩ (.string (S.B x.text))).setCell ⟨g,k*3+2,none⟩ (.int .i64 x.line)) (some g):=by
 refine⟨?_,((zjj w g _ _).trans (zjj _ g _ _)).trans (zjj _ g _ _)⟩;unfold zct;rw[List.length_set,zsv l k x y hk];exact zg8 (zg8 (zg8 h rfl _ _) rfl _ _) rfl _ _
theorem Tryz.zxi:(prog.info? 65).map (λi=>(i.zero,i.size,i.bytes))=some (some (.slice none 0 0),1,24):=by kernel_rfl
def mkTl (z:Int):Tl:=⟨0,[],z⟩
theorem zwl (l:List Tl)(k:Nat)(x:Tl)(hk:k<l.length):(List.replicate k x++l.drop k).set k x=List.replicate (k+1) x++l.drop (k+1):=by
 rw[List.set_append_right _ _ (by simp),List.length_replicate,Nat.sub_self,Qm hk,List.set_cons_zero,List.replicate_succ',Qp];rfl
theorem zxd (l:List Tl)(k:Nat)(x:Tl)(hk:k<=l.length):(List.replicate k x++l.drop k).length=l.length:=by
 rw[Qa,List.length_replicate,Qf];omega
theorem z0c (l:List Tl)(k:Nat)(x y:Tl)(hy:l[k]?=some y):(List.replicate k x++l.drop k)[k]?=some y:=by
 rw[Qu (by simp),List.length_replicate,Nat.sub_self,Qn,Nat.add_zero];exact hy
theorem zpt (D mb B:Nat)(a:Option Addr)(cp:Nat)(l:List Tl)(na:Option Addr)(nn nc:Nat)(bs:List Value)(nv:Value)(w:World)(hDm:D<=mb)(hDB:D<=B)(hBw:B<=w.heap.size)(hm:w.heap[mb]?=some (.cells #[nv,.slice na nn nc] 42 (0,0)))(hbook:w.ownsRow D 65 1 (.slice na nn nc) nn bs)(hnn:nn<=1000000)(hown:zct B a cp l w)(hl:l.length<=900000)
  (hs1:(Value.slice a l.length cp).ownBlock≠some mb) (hs2:∀g,(Value.slice a l.length cp).ownBlock=some g->(Value.slice na nn nc).ownBlock≠some g) (hs3:(Value.slice na nn nc).ownBlock≠some mb) :
  Calls prog 54 #[.pointer (some ⟨mb,0,none⟩),.slice a l.length cp] w λe w'=>e=.returned (.tuple #[])/\Hid (∃(na':Option Addr) (nc':Nat) (bs':List Value),w'.heap[mb]?=some (.cells #[nv,.slice na' (nn+4) nc'] 42 (0,0))/\w'.ownsRow D 65 1 (.slice na' (nn+4) nc') (nn+4) bs'/\(Value.slice na' (nn+4) nc').ownBlock≠some mb/\Below D w w'):=by
 obtain⟨i0,hi,hz0,hz1,hz2⟩:=info_parts Tryz.zm5;obtain⟨j0,hj,hj0,hj1,hj2⟩:=info_parts Tryz.zxi;have qp:mb<w.heap.size:=(Qq.1 hm).1;have c0:w.cell? ⟨mb,1,none⟩=some (.slice na nn nc):=za0 hm 1 _ rfl;have pz:=hid (hown.lt);have yt:=hid hm;have kg:=hid hbook;have hownH:=hid hown;have qm:=hid hs1;have qj:=hid hs2;have kr:=hid hs3;clear hm hbook hown hs1 hs2 hs3;go_enter func54,ntmps54;go_upto_region 1 with fail
 obtain⟨z,hz⟩:∃z:Int,z=1000000+(nn:Int) / 4:=⟨_,rfl⟩;rw[<-hz];obtain⟨W1,hW1⟩:=Qzz (w.alloc (.cells #[.int .i64 0,.string ⟨#[]⟩,.int .i64 z] 71));rw[<-hW1];have hsz1:W1.heap.size=w.heap.size+1:=by rw[hW1];simp
 have hx1:W1.heap[w.heap.size]?=some (.cells #[.int .i64 0,.string ⟨#[]⟩,.int .i64 z] 71 (0,0)):=by rw[hW1];exact za1 _ _
 have hg1:w.grownBy W1 none:=by rw[hW1];exact World.grownBy_alloc _ _ _
 have hown1:zct B a cp l W1:=by rw[hW1];exact hownH.out.alloc _
 have dh:=hid hsz1;have yc:=hid hx1;have vv:=hid hg1;have jq:=hid hown1;obtain⟨own,hown⟩:=Qyy ((Value.slice a l.length cp).ownBlock);have bg:Hid ((Value.slice a l.length cp).ownBlock=own):=hid hown;have hxne:Hid (own≠some w.heap.size):=hid (λe=>by have:=pz.out w.heap.size (hown.trans e);omega);have hxb:Hid (∀wr,W1.grownBy wr own->wr.heap[w.heap.size]?=some (.cells #[.int .i64 0,.string ⟨#[]⟩,.int .i64 z] 71 (0,0))):=hid (λwr hg=>(hg.block w.heap.size (by omega) (λe=>hxne.out e.symm)).trans hx1);clear hz hW1 hsz1 hx1 hg1 hown1 hown c0;go_wp2;go_loopw [5] (λi wr=>∃k:Nat,k<=l.length/\i=.int .i64 k/\Hid (zct B a cp (List.replicate k (mkTl z)++l.drop k) wr/\W1.grownBy wr own)) (λi _=>l.length-(intOf i).toNat)
 case atStart=>exact⟨0,Qt _,rfl,hid ⟨by simpa using jq.out,World.grownBy.refl _ _⟩⟩
 case round=>
  obtain⟨k,hk,rfl,hr⟩:=hrel;have qh:=hxb.out wr hr.out.2;have q0:wr.cell? ⟨w.heap.size,0,none⟩=some (.int .i64 0):=za0 qh 0 _ rfl;have q1:wr.cell? ⟨w.heap.size,1,none⟩=some (.string ⟨#[]⟩):=za0 qh 1 _ rfl;have q2:wr.cell? ⟨w.heap.size,2,none⟩=some (.int .i64 z):=za0 qh 2 _ rfl;clear qh;by_cases hlt:k<l.length
  ·obtain⟨y,hy⟩:∃y,l[k]?=some y:=⟨l[k],Qg hlt⟩;have hya:=z0c l k (mkTl z) y hy;obtain⟨g,hga,hgB,hgl,d0,d1,d2⟩:=zph hr.out.1 k y hya;subst hga;have hfr:=zwj hr.out.1;have hput:=zz3 hr.out.1 k (mkTl z) y hya;rw[zwl l k (mkTl z) hlt] at hput;have pq:own=some g:=bg.out.symm;have jl:=hid hput;have hi1:(k:Int)<(l.length:Int):=by omega
   have hi0:(0:Int)<=(k:Int):=by omega
   have f0:=hfr (k*3);have f1:=hfr (k*3+1);have f2:=hfr (k*3+2);have ny:=hid pq;clear hput hfr pq hya hy;go_wp2;go_roundw
   case rel=>exact⟨k+1,by omega,by go_num,hid ⟨jl.out.1,hr.out.2.trans (by rw[ny.out];exact jl.out.2)⟩⟩
   case measure=>simp[intOf];omega
  ·have hkl:k=l.length:=by omega
   subst hkl;obtain⟨R,hR⟩:=Qyy (List.replicate l.length (mkTl z)++l.drop l.length);have hRl:R.length=l.length:=by rw[<-hR];exact zxd l l.length _ (Qc _)
   rw[hR] at hr;have yg:w.heap.size+1<=wr.heap.size:=by have:=hr.out.2.size;have:=dh.out;omega
   have lq:Hid (wr.ownsRow B 71 3 (.slice a l.length cp) l.length (zao R)):=hid (by have:=hr.out.1;unfold zct at this;rwa [hRl] at this);have hgr:Hid (W1.grownBy wr own):=hid hr.out.2;have dw:Hid (∀u∈three (mkTl z),u.oneCell'=true):=hid (by
    intro u hu;simp[three,mkTl] at hu;rcases hu with rfl|rfl|rfl<;>rfl)
   have hal:Hid (∀(wx:World) ob,wx.ownsRow B 71 3 (.slice a l.length cp) l.length (zao R)->(wx.alloc ob).ownsRow B 71 3 (.slice a l.length cp) l.length (zao R)):=hid (λwx ob h=>World.ownsRow.alloc h ob);clear hr hR hRl;have n1:Hid (∀(wx:World) j u,(three (mkTl z))[j]?=some u->(wx.alloc (.cells #[.int .i64 0,.string ⟨#[]⟩,.int .i64 z] 71)).cell? ((⟨wx.heap.size,0,none⟩:Addr).add j)=some u):=hid (λwx j u hj=>World.news_of_block (za1 _ _) j u (by exact hj));go_wp2_with (at_builtin;refine zi4 _ (by rfl) _ _ 65 (by rfl) B 71 i0 (.agg #[.int .i64 0,.string ⟨#[]⟩,.int .i64 0]) 3 32 underlying65 hi hz0 hz1 hz2 (by rfl) (by omega) (.slice a l.length cp) l.length (zao R) (by rfl) (hal.out _ _ lq.out) ⟨wr.heap.size,0,none⟩ 1 1 (three (mkTl z)) (by rfl) (by rfl) (n1.out wr) dw.out (by omega) (by unfold maxLen;omega) (by omega) (by simp;omega) ?_)
   intro g1 jk w3 hown3 gq hgrow3 xg hlt3;have hg3:Hid (W1.grownBy w3 own):=hid (hgr.out.trans ((World.grownBy_alloc wr _ own).trans (by rw[<-bg.out];exact hgrow3)));have hk3:=hid gq;have yj:w.heap.size+1<=w3.heap.size:=by have:=hg3.out.size;have:=dh.out;omega
   clear q0 q1 q2 hown3 gq hgrow3 xg hlt3;have q0:w3.cell? ⟨w.heap.size,0,none⟩=some (.int .i64 0):=za0 (hxb.out w3 hg3.out) 0 _ rfl;have q1:w3.cell? ⟨w.heap.size,1,none⟩=some (.string ⟨#[]⟩):=za0 (hxb.out w3 hg3.out) 1 _ rfl;have q2:w3.cell? ⟨w.heap.size,2,none⟩=some (.int .i64 z):=za0 (hxb.out w3 hg3.out) 2 _ rfl;have n2:Hid (∀(wx:World) j u,(three (mkTl z)++three (mkTl z))[j]?=some u->(wx.alloc (.cells #[.int .i64 0,.string ⟨#[]⟩,.int .i64 z,.int .i64 0,.string ⟨#[]⟩,.int .i64 z] 71)).cell? ((⟨wx.heap.size,0,none⟩:Addr).add j)=some u):=hid (λwx j u hj=>World.news_of_block (za1 _ _) j u (by exact hj));have jm:Hid (∀u∈three (mkTl z)++three (mkTl z),u.oneCell'=true):=hid (by
    intro u hu;rw[Qbh] at hu;exact hu.elim (dw.out u) (dw.out u))
   go_wp2_with (at_builtin;refine zi4 _ (by rfl) _ _ 65 (by rfl) B 71 i0 (.agg #[.int .i64 0,.string ⟨#[]⟩,.int .i64 0]) 3 32 underlying65 hi hz0 hz1 hz2 (by rfl) (by omega) (.slice a l.length cp) l.length (zao R) (by rfl) (hal.out _ _ hk3.out) ⟨w3.heap.size,0,none⟩ 2 2 (three (mkTl z)++three (mkTl z)) (by rfl) (by rfl) (n2.out w3) jm.out (by omega) (by unfold maxLen;omega) (by omega) (by simp;omega) ?_)
   intro g2 cap2 w4 mh fq jg wm vg;have hg4:Hid (W1.grownBy w4 own):=hid (hg3.out.trans ((World.grownBy_alloc w3 _ own).trans (by rw[<-bg.out];exact jg)));have hk4:=hid fq;have yh:w.heap.size+1<=w4.heap.size:=by have:=hg4.out.size;have:=dh.out;omega
   clear q0 q1 q2 mh fq jg wm vg;have q0:w4.cell? ⟨w.heap.size,0,none⟩=some (.int .i64 0):=za0 (hxb.out w4 hg4.out) 0 _ rfl;have q1:w4.cell? ⟨w.heap.size,1,none⟩=some (.string ⟨#[]⟩):=za0 (hxb.out w4 hg4.out) 1 _ rfl;have q2:w4.cell? ⟨w.heap.size,2,none⟩=some (.int .i64 z):=za0 (hxb.out w4 hg4.out) 2 _ rfl;have n3:Hid (∀(wx:World) j u,(three (mkTl z)++three (mkTl z)++three (mkTl z))[j]?=some u->(wx.alloc (.cells #[.int .i64 0,.string ⟨#[]⟩,.int .i64 z,.int .i64 0,.string ⟨#[]⟩,.int .i64 z,.int .i64 0,.string ⟨#[]⟩,.int .i64 z] 71)).cell? ((⟨wx.heap.size,0,none⟩:Addr).add j)=some u):=hid (λwx j u hj=>World.news_of_block (za1 _ _) j u (by exact hj));have ng:Hid (∀u∈three (mkTl z)++three (mkTl z)++three (mkTl z),u.oneCell'=true):=hid (by
    intro u hu;rw[Qbh] at hu;exact hu.elim (jm.out u) (dw.out u))
   go_wp2_with (at_builtin;refine zi4 _ (by rfl) _ _ 65 (by rfl) B 71 i0 (.agg #[.int .i64 0,.string ⟨#[]⟩,.int .i64 0]) 3 32 underlying65 hi hz0 hz1 hz2 (by rfl) (by omega) (.slice a l.length cp) l.length (zao R) (by rfl) (hal.out _ _ hk4.out) ⟨w4.heap.size,0,none⟩ 3 3 (three (mkTl z)++three (mkTl z)++three (mkTl z)) (by rfl) (by rfl) (n3.out w4) ng.out (by omega) (by unfold maxLen;omega) (by omega) (by simp;omega) ?_)
   intro g3 jh w5 hown5 jw jd wh tq;have hg5:Hid (W1.grownBy w5 own):=hid (hg4.out.trans ((World.grownBy_alloc w4 _ own).trans (by rw[<-bg.out];exact jd)));have hsz5:w.heap.size+1<=w5.heap.size:=by have:=hg5.out.size;have:=dh.out;omega
   clear q0 q1 q2 hown5 jw jd wh tq;have jy:Hid (w.grownBy w5 own):=hid (zed (own:=own) (zed (own1:=none) (World.grownBy.refl w own) vv.out (λg h=>by cases h)) hg5.out (λg h=>.inl h));have qy:w5.heap[mb]?=some (.cells #[nv,.slice na nn nc] 42 (0,0)):=(jy.out.block mb qp (λe=>qm.out (bg.out.trans e.symm))).trans yt.out;have qb:Hid (w5.ownsRow D 65 1 (.slice na nn nc) nn bs):=hid (World.ownsRow.kept kg.out jy.out (by
    cases hbo:(Value.slice na nn nc).ownBlock with
    | none=>exact .inl rfl
    | some g=>exact .inr (λe=>qj.out g (bg.out.trans e.symm) hbo)))
   have c0:w5.cell? ⟨mb,1,none⟩=some (.slice na nn nc):=za0 qy 1 _ rfl;have hb5:Hid (Below D w w5):=hid (Below.grown (Below.refl D w) jy.out (by omega) (λq hq=>by have:=pz.out q (bg.out.trans hq);omega));have qx:=hid qy;clear qy;have n4:Hid (∀(wx:World) j u,([.slice a l.length cp,.slice (some ⟨g1,0,none⟩) (l.length+1) jk,.slice (some ⟨g2,0,none⟩) (l.length+2) cap2,.slice (some ⟨g3,0,none⟩) (l.length+3) jh]:List Value)[j]?=some u->(wx.alloc (.cells #[.slice a l.length cp,.slice (some ⟨g1,0,none⟩) (l.length+1) jk,.slice (some ⟨g2,0,none⟩) (l.length+2) cap2,.slice (some ⟨g3,0,none⟩) (l.length+3) jh] 65)).cell? ((⟨wx.heap.size,0,none⟩:Addr).add j)=some u):=hid (λwx j u hj=>World.news_of_block (za1 _ _) j u (by exact hj));have mq:Hid (∀u∈([.slice a l.length cp,.slice (some ⟨g1,0,none⟩) (l.length+1) jk,.slice (some ⟨g2,0,none⟩) (l.length+2) cap2,.slice (some ⟨g3,0,none⟩) (l.length+3) jh]:List Value),u.oneCell'=true):=hid (by
    intro u hu;simp at hu;rcases hu with rfl|rfl|rfl|rfl<;>rfl)
   have vw:Hid (∀ob,(w5.alloc ob).ownsRow D 65 1 (.slice na nn nc) nn bs):=hid (λob=>World.ownsRow.alloc qb.out ob);have hfin:Hid (∀ob w6 u,(w5.alloc ob).grownBy w6 (Value.slice na nn nc).ownBlock->w6.heap[mb]?=some (.cells #[nv,.slice na nn nc] 42 (0,0))/\Below D w (w6.setCell ⟨mb,1,none⟩ u)):=hid (λob w6 u hg=>by
    have h1:Below D w (w5.alloc ob):=hb5.out.alloc (by have:=hb5.out.size;omega) ob;have h2:Below D w w6:=Below.grown h1 hg (by simp;omega) (λq hq=>by have:=qb.out.lt q hq;omega);refine⟨?_,h2.setCell (p:=⟨mb,1,none⟩) hDm u⟩;rw[hg.block mb (by simp;omega) (λe=>kr.out e.symm),Below.heap_alloc _ _ _ (by omega)];exact qx.out)
   go_wp2_with (at_builtin;refine wpList_append_lies _ (by rfl) _ _ 40 (by rfl) D 65 j0 (.slice none 0 0) 1 24 underlying40 hj hj0 hj1 hj2 (by rfl) (by omega) (.slice na nn nc) nn bs (by rfl) (vw.out _) ⟨w5.heap.size,0,none⟩ 4 4 [.slice a l.length cp,.slice (some ⟨g1,0,none⟩) (l.length+1) jk,.slice (some ⟨g2,0,none⟩) (l.length+2) cap2,.slice (some ⟨g3,0,none⟩) (l.length+3) jh] (by rfl) (by rfl) (n4.out w5) mq.out (by omega) (by unfold maxLen;omega) (by omega) (by simp;omega) (w5.heap.size+1) (by simp) ?_)
   intro g6 cap6 w6 hown6 gy qg qz;have dx:=hid (λu=>hfin.out _ w6 u gy);have xq:g6≠mb:=by
    rcases qg with h|h
    ·exact λe=>kr.out (by rw[h,e])
    ·omega
   have lg:=hid (λu=>World.ownsRow.kept hown6 (zjj w6 mb 1 u) (.inr (λe=>xq (by simpa [Value.ownBlock] using e))));have vk:=hid xq;have c6:w6.cell? ⟨mb,1,none⟩=some (.slice na nn nc):=za0 (dx.out .nilIface).1 1 _ rfl;have f6:=za7 (dx.out .nilIface).1 1;clear hown6 gy qg qz c0;go_wp2;go_end0;exact⟨rfl,hid ⟨some ⟨g6,0,none⟩,cap6,_,za3 (cs:=[nv,.slice na nn nc]) (dx.out .nilIface).1 1 _,lg.out _,λe=>vk.out (by simpa [Value.ownBlock] using e),(dx.out _).2⟩⟩
end Go.Proofs.YtlojgpkajkedeaaGreatDoor
