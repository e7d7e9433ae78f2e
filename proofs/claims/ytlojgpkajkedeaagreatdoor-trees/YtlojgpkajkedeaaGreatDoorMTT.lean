import Derived.Test.YtlojgpkajkedeaaGreatDoorME24
import Derived.Maps.AppendAt
import Derived.Deep.AppendLies
namespace Go.Proofs.YtlojgpkajkedeaaGreatDoor
open Go.RowKit
theorem zhr {P:Program} (w:World) {ops:Array Oper} {rest:List Oper} {o:Oper} {a:Act} {Q:Exit→Act→World→Prop} (hgd:o.guard=none) (s x:Operand) (t:TypeId)
  (ho:o.op = .call { callee:=.builtin .append,args:=#[s,x],argTypes:=#[t,t] })
  (base:Nat) (e:TypeId) (i:TypeInfo) (z:Value) (size bytes:Nat) (ht:P.underlying t=some (.slice e)) (hi:P.info? e=some i) (hz:i.zero=some z)
  (hsize:i.size=size) (hby:i.bytes=bytes) (hzs:z.cells.size=size) (hsz:0<size)
  (v:Value) (n:Nat) (xs:List Value) (hs:a.eval s=v) (hown:w.ownsRow base e size v n xs)
  (ad:Addr) (m c:Nat) (news:List Value) (hx:a.eval x = .slice (some ad) m c) (hl:news.length=m*size) (hnews:∀ j u,news[j]?=some u→w.cell? (ad.add j)=some u) (h1:∀ u∈news,u.oneCell'=true)
  (hm:0<m) (h63:n+m≤maxLen) (hbytes:(n+m)*bytes≤140737488355328) (hbase:base≤w.heap.size)
  (h:∀ g cap w',w'.ownsRow base e size (.slice (some ⟨g,0,none⟩) (n+m) cap) (n+m) (xs++news)→w'.ownsRow base e size v n xs→w.grownBy w' v.ownBlock→(v.ownBlock=some g∨g=w.heap.size)→g<w'.heap.size→wpList P ops Q rest (a.put o.dst (.slice (some ⟨g,0,none⟩) (n+m) cap)) w'):wpList P ops Q (o::rest) a w:=by
 obtain ⟨v',w',hr,h2,h3,h4,h5⟩:=run_append_own_at (P:=P) w base t o.type e i z size bytes ht hi hz hsize hby hzs hsz v n xs hown ad m c news hl hnews h1 h63 hbytes hbase
 have hkeep:w'.ownsRow base e size v n xs:=by
  subst hsize
  rcases hown.2 with ⟨rfl,rfl⟩|⟨g,cap,cur,rfl,hbg,hg,hnc,hcm,hcs,htake⟩
  ·have:xs=[]:=List.eq_nil_of_length_eq_zero (by simpa using hown.1)
   subst this
   exact World.ownsRow_nil _ _ _ _
  ·by_cases hroom:n+m≤cap
   ·have hfit:n*i.size+news.length≤cur.size:=by rw[hl,hcs,← Nat.add_mul];exact Nat.mul_le_mul_right _ hroom
    have hr2:=run_append_room (P:=P) w t o.type e i ht hi g n cap cur hg ad m c news hl hnews h1 hroom hfit
    rw[hr] at hr2
    injection hr2 with e1 e2
    subst e2
    refine ⟨hown.1,.inr ⟨g,cap,_,rfl,hbg,setRow_heap w g cur _ e _ hg,hnc,hcm,?_,?_⟩⟩
    ·simp only[List.size_toArray,List.length_append,List.length_take,List.length_drop,Array.length_toList]
     omega
    ·rw[← htake]
     simp only[List.append_assoc]
     rw[List.take_append_of_le_length (by rw[List.length_take,Array.length_toList];omega),List.take_take,Nat.min_self]
   ·have holds:∀ j u,xs[j]?=some u→w.cell? ((⟨g,0,none⟩:Addr).add j)=some u:=hown.cells (g:=g) rfl
    have hr2:=run_append_grow (P:=P) w t o.type e i z ht hi hz ⟨g,0,none⟩ n cap xs hown.1 holds ad m c news hl hnews (by omega) (by simp only[maxLen] at h63;omega) (growslice_fits (by omega) (by rw[hby];exact hbytes))
    rw[hr] at hr2
    injection hr2 with e1 e2
    subst e2
    refine ⟨hown.1,.inr ⟨g,cap,cur,rfl,hbg,?_,hnc,hcm,hcs,htake⟩⟩
    rw[← hg]
    exact Below.heap_alloc w.drew _ g (Array.getElem?_eq_some_iff.1 hg).1
 have hsome:∃ g cap,v' = .slice (some ⟨g,0,none⟩) (n+m) cap∧g<w'.heap.size:=by
  rcases h2.2 with ⟨h6,h7⟩|⟨g,cap,cur,h6,_,h8,_⟩
  ·omega
  ·exact ⟨g,cap,h6,(Array.getElem?_eq_some_iff.1 h8).1⟩
 obtain ⟨g,cap,rfl,hglt⟩:=hsome
 have hat:v.ownBlock=some g∨g=w.heap.size:=by
  rcases h5 with h5|h5
  ·exact .inl (by rw[← h5];rfl)
  ·exact .inr (by simpa [Value.ownBlock] using h5)
 refine wpList_plain hgd fun K hK=>?_
 unfold Oper.wp execOp
 simp only[ho,resolve,invoke,builtin,Sem.run_bind,Sem.run_pure,Result.andThen_ok,List.map_toArray,List.map_cons,List.map_nil,hs,hx,hr]
 exact hK _ _ (h g cap w' h2 hkeep h3 hat hglt)
theorem zrr {B g cp:Nat} {l:List Nd} {w:World} (h:zba B (some ⟨g,0,none⟩) cp l w) (i:Nat):w.frozen? ⟨g,i,none⟩=false:=by
 rcases h.2 with ⟨h,_⟩|⟨g',cap,cur,he,_,hb,_⟩
 ·exact absurd h (by simp)
 ·obtain rfl:g=g':=by simp at he;exact he.1
  exact za7 hb i
theorem zlh (a b:List Nd):zao (a++b)=zao a++zao b:=by simp[zao]
theorem zme (l:List Nd):(zao l).length=l.length*5:=by
 induction l with
 | nil=>rfl
 | cons x r ih=>
  have e:zao (x::r)=five x++zao r:=by simp[zao]
  rw[e,List.length_append,ih,List.length_cons];simp[five];omega
theorem zqe (l:List Nd) (k:Nat) (x y:Nd) (h:l[k]?=some y):zao (l.set k x)=(((((zao l).set (k*5) (.int .i64 x.depth)).set (k*5+1) (.int .i64 x.kind)).set (k*5+2) (.int .i64 x.n)).set (k*5+3) (.string x.info)).set (k*5+4) (.string x.text):=by
 have hk:=(List.getElem?_eq_some_iff.1 h).1
 have hs:l=l.take k++y::l.drop (k+1):=by
  conv=>lhs;rw[← List.take_append_drop k l]
  rw[List.drop_eq_getElem_cons hk]
  rw[List.getElem?_eq_getElem hk] at h
  rw[Option.some.inj h]
 have hl:(zao (l.take k)).length=k*5:=by rw[zme,List.length_take,Nat.min_eq_left (by omega)]
 have hc:∀ (z:Nd) (r:List Nd),zao (z::r)=five z++zao r:=fun z r=>by simp[zao]
 have h1:zao l=zao (l.take k)++(five y++zao (l.drop (k+1))):=by
  conv=>lhs;rw[hs]
  rw[zlh,hc]
 have h2:zao (l.set k x)=zao (l.take k)++(five x++zao (l.drop (k+1))):=by
  have:l.set k x=l.take k++x::l.drop (k+1):=by
   conv=>lhs;rw[hs]
   rw[List.set_append_right _ _ (by rw[List.length_take];omega),List.length_take,Nat.min_eq_left (by omega),Nat.sub_self]
   rfl
  rw[this,zlh,hc]
 rw[h2,h1]
 rw[List.set_append_right _ _ (by omega),List.set_append_right _ _ (by omega),List.set_append_right _ _ (by omega),List.set_append_right _ _ (by omega),List.set_append_right _ _ (by omega),hl,Nat.sub_self,show k*5+1-k*5=1 from by omega,show k*5+2-k*5=2 from by omega,show k*5+3-k*5=3 from by omega,show k*5+4-k*5=4 from by omega]
 rfl
theorem zgo (w:World) (g i:Nat) (u:Value):w.grownBy (w.setCell ⟨g,i,none⟩ u) (some g):=
 ⟨rfl,rfl,rfl,by simp[World.setCell],fun k _ hne=>zan rfl ⟨g,i,none⟩ (fun e=>hne (by rw[e])) u⟩
theorem zwu {B g cp:Nat} {l:List Nd} {w:World} (h:zba B (some ⟨g,0,none⟩) cp l w) (k:Nat) (x y:Nd) (hk:l[k]?=some y) :
  zba B (some ⟨g,0,none⟩) cp (l.set k x) (((((w.setCell ⟨g,k*5,none⟩ (.int .i64 x.depth)).setCell ⟨g,k*5+1,none⟩ (.int .i64 x.kind)).setCell ⟨g,k*5+2,none⟩ (.int .i64 x.n)).setCell ⟨g,k*5+3,none⟩ (.string x.info)).setCell ⟨g,k*5+4,none⟩ (.string x.text)) ∧
  w.grownBy (((((w.setCell ⟨g,k*5,none⟩ (.int .i64 x.depth)).setCell ⟨g,k*5+1,none⟩ (.int .i64 x.kind)).setCell ⟨g,k*5+2,none⟩ (.int .i64 x.n)).setCell ⟨g,k*5+3,none⟩ (.string x.info)).setCell ⟨g,k*5+4,none⟩ (.string x.text)) (some g):=by
 refine ⟨?_,((((zgo w g _ _).trans (zgo _ g _ _)).trans (zgo _ g _ _)).trans (zgo _ g _ _)).trans (zgo _ g _ _)⟩
 unfold zba
 rw[List.length_set,zqe l k x y hk]
 exact zed (zed (zed (zed (zed h rfl _ _) rfl _ _) rfl _ _) rfl _ _) rfl _ _
theorem Tryz.zxt:(Tryz.prog.info? 22).map (fun i=>(i.zero,i.size,i.bytes))=some (some (.slice none 0 0),1,24):=by kernel_rfl
def mkNd (z:Int):Nd:=⟨0,0,z,⟨#[]⟩,⟨#[]⟩⟩
theorem zvd (l:List Nd) (k:Nat) (x:Nd) (hk:k<l.length):(List.replicate k x++l.drop k).set k x=List.replicate (k+1) x++l.drop (k+1):=by
 rw[List.set_append_right _ _ (by simp),List.length_replicate,Nat.sub_self,List.drop_eq_getElem_cons hk,List.set_cons_zero,List.replicate_succ',List.append_assoc];rfl
theorem zy2 (l:List Nd) (k:Nat) (x:Nd) (hk:k≤l.length):(List.replicate k x++l.drop k).length=l.length:=by
 rw[List.length_append,List.length_replicate,List.length_drop];omega
theorem zzf (l:List Nd) (k:Nat) (x y:Nd) (hy:l[k]?=some y):(List.replicate k x++l.drop k)[k]?=some y:=by
 rw[List.getElem?_append_right (by simp),List.length_replicate,Nat.sub_self,List.getElem?_drop,Nat.add_zero];exact hy
set_option maxRecDepth 100000 in
set_option maxHeartbeats 8000000 in
theorem zle (D mb B:Nat) (a:Option Addr) (cp:Nat) (l:List Nd) (na:Option Addr) (nn nc:Nat) (bs:List Value) (tv:Value) (w:World) (hDm:D≤mb) (hDB:D≤B) (hBw:B≤w.heap.size) (hm:w.heap[mb]?=some (.cells #[.slice na nn nc,tv] 42 (0,0))) (hbook:w.ownsRow D 22 1 (.slice na nn nc) nn bs) (hnn:nn≤1000000) (hown:zba B a cp l w) (hl:l.length≤900000)
  (hs1:(Value.slice a l.length cp).ownBlock≠some mb) (hs2:∀ g,(Value.slice a l.length cp).ownBlock=some g→(Value.slice na nn nc).ownBlock≠some g) (hs3:(Value.slice na nn nc).ownBlock≠some mb) :
  Calls Tryz.prog 50 #[.pointer (some ⟨mb,0,none⟩),.slice a l.length cp] w fun e w'=>e = .returned (.tuple #[])∧Below D w w':=by
 obtain ⟨i0,hi,hz0,hz1,hz2⟩:=info_parts Tryz.zkk
 obtain ⟨j0,hj,hj0,hj1,hj2⟩:=info_parts Tryz.zxt
 have hmlt:mb<w.heap.size:=(Array.getElem?_eq_some_iff.1 hm).1
 have c0:w.cell? ⟨mb,0,none⟩=some (.slice na nn nc):=za0 hm 0 _ rfl
 have hltL:=hid (hown.lt)
 have hmH:=hid hm
 have hbookH:=hid hbook
 have hownH:=hid hown
 have hs1H:=hid hs1
 have hs2H:=hid hs2
 have hs3H:=hid hs3
 clear hm hbook hown hs1 hs2 hs3
 go_enter Tryz.func50,Tryz.ntmps50
 go_upto_region 1 with fail
 obtain ⟨z,hz⟩:∃ z:Int,z=1000000+(nn:Int) / 4:=⟨_,rfl⟩
 rw[← hz]
 obtain ⟨W1,hW1⟩:∃ W1,W1=w.alloc (.cells #[.int .i64 0,.int .i64 0,.int .i64 z,.string ⟨#[]⟩,.string ⟨#[]⟩] 36):=⟨_,rfl⟩
 rw[← hW1]
 have hsz1:W1.heap.size=w.heap.size+1:=by rw[hW1];simp
 have hx1:W1.heap[w.heap.size]?=some (.cells #[.int .i64 0,.int .i64 0,.int .i64 z,.string ⟨#[]⟩,.string ⟨#[]⟩] 36 (0,0)):=by rw[hW1];exact za1 _ _
 have hg1:w.grownBy W1 none:=by rw[hW1];exact World.grownBy_alloc _ _ _
 have hown1:zba B a cp l W1:=by rw[hW1];exact hownH.out.alloc _
 have hsz1H:=hid hsz1
 have hx1H:=hid hx1
 have hg1H:=hid hg1
 have hown1H:=hid hown1
 obtain ⟨own,hown⟩:∃ own,(Value.slice a l.length cp).ownBlock=own:=⟨_,rfl⟩
 have hownB:Hid ((Value.slice a l.length cp).ownBlock=own):=hid hown
 have hxne:Hid (own≠some w.heap.size):=hid (fun e=>by have:=hltL.out w.heap.size (hown.trans e);omega)
 have hxb:Hid (∀ wr,W1.grownBy wr own→wr.heap[w.heap.size]?=some (.cells #[.int .i64 0,.int .i64 0,.int .i64 z,.string ⟨#[]⟩,.string ⟨#[]⟩] 36 (0,0))):=hid (fun wr hg=>(hg.block w.heap.size (by omega) (fun e=>hxne.out e.symm)).trans hx1)
 clear hz hW1 hsz1 hx1 hg1 hown1 hown c0
 go_wp2
 go_loopw [5] (fun i wr=>∃ k:Nat,k≤l.length∧i = .int .i64 k∧Hid (zba B a cp (List.replicate k (mkNd z)++l.drop k) wr∧W1.grownBy wr own)) (fun i _=>l.length-(intOf i).toNat)
 case atStart=>exact ⟨0,Nat.zero_le _,rfl,hid ⟨by simpa using hown1H.out,World.grownBy.refl _ _⟩⟩
 case round=>
  obtain ⟨k,hk,rfl,hr⟩:=hrel
  have hxr:=hxb.out wr hr.out.2
  have q0:wr.cell? ⟨w.heap.size,0,none⟩=some (.int .i64 0):=za0 hxr 0 _ rfl
  have q1:wr.cell? ⟨w.heap.size,1,none⟩=some (.int .i64 0):=za0 hxr 1 _ rfl
  have q2:wr.cell? ⟨w.heap.size,2,none⟩=some (.int .i64 z):=za0 hxr 2 _ rfl
  have q3:wr.cell? ⟨w.heap.size,3,none⟩=some (.string ⟨#[]⟩):=za0 hxr 3 _ rfl
  have q4:wr.cell? ⟨w.heap.size,4,none⟩=some (.string ⟨#[]⟩):=za0 hxr 4 _ rfl
  clear hxr
  by_cases hlt:k<l.length
  ·obtain ⟨y,hy⟩:∃ y,l[k]?=some y:=⟨l[k],List.getElem?_eq_getElem hlt⟩
   have hya:=zzf l k (mkNd z) y hy
   obtain ⟨g,hga,hgB,hgl,d0,d1,d2,d3,d4⟩:=zno hr.out.1 k y hya
   subst hga
   have hfr:=zrr hr.out.1
   have hput:=zwu hr.out.1 k (mkNd z) y hya
   rw[zvd l k (mkNd z) hlt] at hput
   have hogr:own=some g:=hownB.out.symm
   have hputH:=hid hput
   have hi1:(k:Int)<(l.length:Int):=by omega
   have hi0:(0:Int)≤(k:Int):=by omega
   have f0:=hfr (k*5)
   have f1:=hfr (k*5+1)
   have f2:=hfr (k*5+2)
   have f3:=hfr (k*5+3)
   have f4:=hfr (k*5+4)
   have hogrH:=hid hogr
   clear hput hfr hogr hya hy
   go_wp2
   go_roundw
   case rel=>exact ⟨k+1,by omega,by go_num,hid ⟨hputH.out.1,hr.out.2.trans (by rw[hogrH.out];exact hputH.out.2)⟩⟩
   case measure=>simp[intOf];omega
  ·have hkl:k=l.length:=by omega
   subst hkl
   obtain ⟨R,hR⟩:∃ R,List.replicate l.length (mkNd z)++l.drop l.length=R:=⟨_,rfl⟩
   have hRl:R.length=l.length:=by rw[← hR];exact zy2 l l.length _ (Nat.le_refl _)
   rw[hR] at hr
   have hszr:w.heap.size+1≤wr.heap.size:=by have:=hr.out.2.size;have:=hsz1H.out;omega
   have hownR:Hid (wr.ownsRow B 36 5 (.slice a l.length cp) l.length (zao R)):=hid (by have:=hr.out.1;unfold zba at this;rwa [hRl] at this)
   have hgr:Hid (W1.grownBy wr own):=hid hr.out.2
   have hone1:Hid (∀ u∈five (mkNd z),u.oneCell'=true):=hid (by
    intro u hu;simp[five,mkNd] at hu;rcases hu with rfl|rfl|rfl|rfl|rfl <;> rfl)
   have hal:Hid (∀ (wx:World) ob,wx.ownsRow B 36 5 (.slice a l.length cp) l.length (zao R)→(wx.alloc ob).ownsRow B 36 5 (.slice a l.length cp) l.length (zao R)):=hid (fun wx ob h=>World.ownsRow.alloc h ob)
   clear hr hR hRl
   have n1:Hid (∀ (wx:World) j u,(five (mkNd z))[j]?=some u→(wx.alloc (.cells #[.int .i64 0,.int .i64 0,.int .i64 z,.string ⟨#[]⟩,.string ⟨#[]⟩] 36)).cell? ((⟨wx.heap.size,0,none⟩:Addr).add j)=some u):=hid (fun wx j u hj=>World.news_of_block (za1 _ _) j u (by exact hj))
   go_wp2_with (at_builtin;refine zhr _ (by rfl) _ _ 22 (by rfl) B 36 i0 (.agg #[.int .i64 0,.int .i64 0,.int .i64 0,.string ⟨#[]⟩,.string ⟨#[]⟩]) 5 56 Tryz.underlying22 hi hz0 hz1 hz2 (by rfl) (by omega) (.slice a l.length cp) l.length (zao R) (by rfl) (hal.out _ _ hownR.out) ⟨wr.heap.size,0,none⟩ 1 1 (five (mkNd z)) (by rfl) (by rfl) (n1.out wr) hone1.out (by omega) (by unfold maxLen;omega) (by omega) (by simp;omega) ?_)
   intro g1 cap1 w3 hown3 hkeep3 hgrow3 hat3 hlt3
   have hg3:Hid (W1.grownBy w3 own):=hid (hgr.out.trans ((World.grownBy_alloc wr _ own).trans (by rw[← hownB.out];exact hgrow3)))
   have hk3:=hid hkeep3
   have hsz3:w.heap.size+1≤w3.heap.size:=by have:=hg3.out.size;have:=hsz1H.out;omega
   clear q0 q1 q2 q3 q4 hown3 hkeep3 hgrow3 hat3 hlt3
   have q0:w3.cell? ⟨w.heap.size,0,none⟩=some (.int .i64 0):=za0 (hxb.out w3 hg3.out) 0 _ rfl
   have q1:w3.cell? ⟨w.heap.size,1,none⟩=some (.int .i64 0):=za0 (hxb.out w3 hg3.out) 1 _ rfl
   have q2:w3.cell? ⟨w.heap.size,2,none⟩=some (.int .i64 z):=za0 (hxb.out w3 hg3.out) 2 _ rfl
   have q3:w3.cell? ⟨w.heap.size,3,none⟩=some (.string ⟨#[]⟩):=za0 (hxb.out w3 hg3.out) 3 _ rfl
   have q4:w3.cell? ⟨w.heap.size,4,none⟩=some (.string ⟨#[]⟩):=za0 (hxb.out w3 hg3.out) 4 _ rfl
   have n2:Hid (∀ (wx:World) j u,(five (mkNd z)++five (mkNd z))[j]?=some u→(wx.alloc (.cells #[.int .i64 0,.int .i64 0,.int .i64 z,.string ⟨#[]⟩,.string ⟨#[]⟩,.int .i64 0,.int .i64 0,.int .i64 z,.string ⟨#[]⟩,.string ⟨#[]⟩] 36)).cell? ((⟨wx.heap.size,0,none⟩:Addr).add j)=some u):=hid (fun wx j u hj=>World.news_of_block (za1 _ _) j u (by exact hj))
   have hone2:Hid (∀ u∈five (mkNd z)++five (mkNd z),u.oneCell'=true):=hid (by
    intro u hu;rw[List.mem_append] at hu;exact hu.elim (hone1.out u) (hone1.out u))
   go_wp2_with (at_builtin;refine zhr _ (by rfl) _ _ 22 (by rfl) B 36 i0 (.agg #[.int .i64 0,.int .i64 0,.int .i64 0,.string ⟨#[]⟩,.string ⟨#[]⟩]) 5 56 Tryz.underlying22 hi hz0 hz1 hz2 (by rfl) (by omega) (.slice a l.length cp) l.length (zao R) (by rfl) (hal.out _ _ hk3.out) ⟨w3.heap.size,0,none⟩ 2 2 (five (mkNd z)++five (mkNd z)) (by rfl) (by rfl) (n2.out w3) hone2.out (by omega) (by unfold maxLen;omega) (by omega) (by simp;omega) ?_)
   intro g2 cap2 w4 hown4 hkeep4 hgrow4 hat4 hlt4
   have hg4:Hid (W1.grownBy w4 own):=hid (hg3.out.trans ((World.grownBy_alloc w3 _ own).trans (by rw[← hownB.out];exact hgrow4)))
   have hk4:=hid hkeep4
   have hsz4:w.heap.size+1≤w4.heap.size:=by have:=hg4.out.size;have:=hsz1H.out;omega
   clear q0 q1 q2 q3 q4 hown4 hkeep4 hgrow4 hat4 hlt4
   have q0:w4.cell? ⟨w.heap.size,0,none⟩=some (.int .i64 0):=za0 (hxb.out w4 hg4.out) 0 _ rfl
   have q1:w4.cell? ⟨w.heap.size,1,none⟩=some (.int .i64 0):=za0 (hxb.out w4 hg4.out) 1 _ rfl
   have q2:w4.cell? ⟨w.heap.size,2,none⟩=some (.int .i64 z):=za0 (hxb.out w4 hg4.out) 2 _ rfl
   have q3:w4.cell? ⟨w.heap.size,3,none⟩=some (.string ⟨#[]⟩):=za0 (hxb.out w4 hg4.out) 3 _ rfl
   have q4:w4.cell? ⟨w.heap.size,4,none⟩=some (.string ⟨#[]⟩):=za0 (hxb.out w4 hg4.out) 4 _ rfl
   have n3:Hid (∀ (wx:World) j u,(five (mkNd z)++five (mkNd z)++five (mkNd z))[j]?=some u→(wx.alloc (.cells #[.int .i64 0,.int .i64 0,.int .i64 z,.string ⟨#[]⟩,.string ⟨#[]⟩,.int .i64 0,.int .i64 0,.int .i64 z,.string ⟨#[]⟩,.string ⟨#[]⟩,.int .i64 0,.int .i64 0,.int .i64 z,.string ⟨#[]⟩,.string ⟨#[]⟩] 36)).cell? ((⟨wx.heap.size,0,none⟩:Addr).add j)=some u):=hid (fun wx j u hj=>World.news_of_block (za1 _ _) j u (by exact hj))
   have hone3:Hid (∀ u∈five (mkNd z)++five (mkNd z)++five (mkNd z),u.oneCell'=true):=hid (by
    intro u hu;rw[List.mem_append] at hu;exact hu.elim (hone2.out u) (hone1.out u))
   go_wp2_with (at_builtin;refine zhr _ (by rfl) _ _ 22 (by rfl) B 36 i0 (.agg #[.int .i64 0,.int .i64 0,.int .i64 0,.string ⟨#[]⟩,.string ⟨#[]⟩]) 5 56 Tryz.underlying22 hi hz0 hz1 hz2 (by rfl) (by omega) (.slice a l.length cp) l.length (zao R) (by rfl) (hal.out _ _ hk4.out) ⟨w4.heap.size,0,none⟩ 3 3 (five (mkNd z)++five (mkNd z)++five (mkNd z)) (by rfl) (by rfl) (n3.out w4) hone3.out (by omega) (by unfold maxLen;omega) (by omega) (by simp;omega) ?_)
   intro g3 cap3 w5 hown5 hkeep5 hgrow5 hat5 hlt5
   have hg5:Hid (W1.grownBy w5 own):=hid (hg4.out.trans ((World.grownBy_alloc w4 _ own).trans (by rw[← hownB.out];exact hgrow5)))
   have hsz5:w.heap.size+1≤w5.heap.size:=by have:=hg5.out.size;have:=hsz1H.out;omega
   clear q0 q1 q2 q3 q4 hown5 hkeep5 hgrow5 hat5 hlt5
   have hg5w:Hid (w.grownBy w5 own):=hid (zbs (own:=own) (zbs (own1:=none) (World.grownBy.refl w own) hg1H.out (fun g h=>by cases h)) hg5.out (fun g h=>.inl h))
   have hm5:w5.heap[mb]?=some (.cells #[.slice na nn nc,tv] 42 (0,0)):=(hg5w.out.block mb hmlt (fun e=>hs1H.out (hownB.out.trans e.symm))).trans hmH.out
   have hbk5:Hid (w5.ownsRow D 22 1 (.slice na nn nc) nn bs):=hid (World.ownsRow.kept hbookH.out hg5w.out (by
    cases hbo:(Value.slice na nn nc).ownBlock with
    | none=>exact .inl rfl
    | some g=>exact .inr (fun e=>hs2H.out g (hownB.out.trans e.symm) hbo)))
   have c0:w5.cell? ⟨mb,0,none⟩=some (.slice na nn nc):=za0 hm5 0 _ rfl
   have hb5:Hid (Below D w w5):=hid (Below.grown (Below.refl D w) hg5w.out (by omega) (fun q hq=>by have:=hltL.out q (hownB.out.trans hq);omega))
   have hm5H:=hid hm5
   clear hm5
   have n4:Hid (∀ (wx:World) j u,([.slice a l.length cp,.slice (some ⟨g1,0,none⟩) (l.length+1) cap1,.slice (some ⟨g2,0,none⟩) (l.length+2) cap2,.slice (some ⟨g3,0,none⟩) (l.length+3) cap3]:List Value)[j]?=some u→(wx.alloc (.cells #[.slice a l.length cp,.slice (some ⟨g1,0,none⟩) (l.length+1) cap1,.slice (some ⟨g2,0,none⟩) (l.length+2) cap2,.slice (some ⟨g3,0,none⟩) (l.length+3) cap3] 22)).cell? ((⟨wx.heap.size,0,none⟩:Addr).add j)=some u):=hid (fun wx j u hj=>World.news_of_block (za1 _ _) j u (by exact hj))
   have hone4:Hid (∀ u∈([.slice a l.length cp,.slice (some ⟨g1,0,none⟩) (l.length+1) cap1,.slice (some ⟨g2,0,none⟩) (l.length+2) cap2,.slice (some ⟨g3,0,none⟩) (l.length+3) cap3]:List Value),u.oneCell'=true):=hid (by
    intro u hu;simp at hu;rcases hu with rfl|rfl|rfl|rfl <;> rfl)
   have hbkA:Hid (∀ ob,(w5.alloc ob).ownsRow D 22 1 (.slice na nn nc) nn bs):=hid (fun ob=>World.ownsRow.alloc hbk5.out ob)
   have hfin:Hid (∀ ob w6 u,(w5.alloc ob).grownBy w6 (Value.slice na nn nc).ownBlock→w6.heap[mb]?=some (.cells #[.slice na nn nc,tv] 42 (0,0))∧Below D w (w6.setCell ⟨mb,0,none⟩ u)):=hid (fun ob w6 u hg=>by
    have h1:Below D w (w5.alloc ob):=hb5.out.alloc (by have:=hb5.out.size;omega) ob
    have h2:Below D w w6:=Below.grown h1 hg (by simp;omega) (fun q hq=>by have:=hbk5.out.lt q hq;omega)
    refine ⟨?_,h2.setCell (p:=⟨mb,0,none⟩) hDm u⟩
    rw[hg.block mb (by simp;omega) (fun e=>hs3H.out e.symm),Below.heap_alloc _ _ _ (by omega)]
    exact hm5H.out)
   go_wp2_with (at_builtin;refine wpList_append_lies _ (by rfl) _ _ 39 (by rfl) D 22 j0 (.slice none 0 0) 1 24 Tryz.underlying39 hj hj0 hj1 hj2 (by rfl) (by omega) (.slice na nn nc) nn bs (by rfl) (hbkA.out _) ⟨w5.heap.size,0,none⟩ 4 4 [.slice a l.length cp,.slice (some ⟨g1,0,none⟩) (l.length+1) cap1,.slice (some ⟨g2,0,none⟩) (l.length+2) cap2,.slice (some ⟨g3,0,none⟩) (l.length+3) cap3] (by rfl) (by rfl) (n4.out w5) hone4.out (by omega) (by unfold maxLen;omega) (by omega) (by simp;omega) (w5.heap.size+1) (by simp) ?_)
   intro g6 cap6 w6 hown6 hgrow6 hat6 hlt6
   have hfin6:=hid (fun u=>hfin.out _ w6 u hgrow6)
   have c6:w6.cell? ⟨mb,0,none⟩=some (.slice na nn nc):=za0 (hfin6.out .nilIface).1 0 _ rfl
   have f6:=za7 (hfin6.out .nilIface).1 0
   clear hown6 hgrow6 hat6 hlt6 c0
   go_wp2
   go_end0
   exact ⟨rfl,(hfin6.out _).2⟩
def fin (ct:ByteArray):Nat→St→Option (List Pt)
 | 0,s=>if s.k=ct.size then some (s.skip ct 0).ps else none
 | n+1,s=>if s.k=ct.size then some (s.skip ct 0).ps else if s.k<ct.size then fin ct n (step ct s) else none
theorem zyl (ct:ByteArray) (n:Nat) (s:St) (r:List Pt) (h:fin ct n s=some r):Ends ct s r:=by
 induction n generalizing s with
 | zero=>
  unfold fin at h
  split at h
  ·rename_i hk;cases h;exact .done s hk
  ·cases h
 | succ n ih=>
  unfold fin at h
  split at h
  ·rename_i hk;cases h;exact .done s hk
  ·split at h
   ·rename_i hk;exact .go s r hk (ih _ h)
   ·cases h
theorem zxb (c:List UInt8) (n:Nat) (h:(fin (S.B c) n zfq).isSome=true):zi9 c=zd7 ((fin (S.B c) n zfq).getD []):=by
 cases hf:fin (S.B c) n zfq with
 | none=>rw[hf] at h;simp at h
 | some r=>exact zkb c r (zyl _ _ _ _ hf)
end Go.Proofs.YtlojgpkajkedeaaGreatDoor
