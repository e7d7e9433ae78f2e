import Derived.Test.YtlojgpkajkedeaaGreatDoorNStr
import Derived.Test.YtlojgpkajkedeaaGreatDoorNStr5
set_option maxHeartbeats 16000000
set_option maxRecDepth 100000
namespace Go.Proofs.YtlojgpkajkedeaaGreatDoor
open Go.RowKit Go.Proofs.Tryz
theorem zr5 (b o cap:Nat)(us:List ByteArray)(kind:UInt8)(w:World)(hbw:b<w.heap.size)(hrow:RowS w b o us)(henv:Env w):Calls prog 181 #[.slice (some ⟨b,o,none⟩) us.length cap,.int .u8 (kind.toNat:Int)] w λe w'=>
   ∃mk:S.Mark,e=.returned (.tuple #[.agg #[.int .u8 (mk.kind.toNat:Int),.int .i64 mk.number,.int .i64 (mk.zaa:Nat),.bool mk.empty],.bool (S.zaw kind (dat us)).ok])/\Hid ((S.zaw kind (dat us)).ok=true->mk=S.zaw kind (dat us))/\Below w.heap.size w w':=by
 cases us with
 | nil=>
  refine(zke _ cap kind w).mono ?_;rintro e w'⟨rfl,hb⟩;exact⟨⟨0,0,0,false,false⟩,rfl,hid (by intro h;simp[S.zaw,dat] at h),hb⟩
 | cons s r=>
  have hs0:(s::r)[0]?=some s:=rfl;have hs:s.size<=140737488355328:=by have:=zdg _ _ s hs0;have:=hrow.2;omega
  have hc:=hrow.1 0 s hs0;rw[Nat.add_zero] at hc;cases hr:S.zbz s.data.toList
  ·refine(zop b o (r.length+1) cap kind s w (by omega) hs hbw hc hr henv).mono ?_;rintro e w'⟨rfl,hb⟩;have hn:S.zaw kind (dat (s::r)) = { S.item s.data.toList with ok:=(S.item s.data.toList).ok&&decide ((S.item s.data.toList).kind=kind) }:=by
    show S.zaw kind (s.data.toList::dat r)=_;simp[S.zaw,hr]
   refine⟨{ S.item s.data.toList with ok:=(S.item s.data.toList).ok&&decide ((S.item s.data.toList).kind=kind) },by rw[hn],hid (λ_=>hn.symm),hb⟩
  ·refine(zpk b o (r.length+1) cap kind s w (by omega) (by unfold maxLen;omega) hbw hc hr).mono ?_;rintro e w'⟨rfl,hb⟩;have hn:S.zaw kind (dat (s::r))=⟨0,0,0,false,false⟩:=by
    show S.zaw kind (s.data.toList::dat r)=_;simp[S.zaw,hr]
   exact⟨⟨0,0,0,false,false⟩,by rw[hn];rfl,hid (λ_=>hn.symm),hb⟩
structure zmz (d:Nat)(w:World)(ss:List ByteArray)(x0:List UInt8)(k f:Nat)(s:ByteArray)(ps:List (S.Blk × Value × Ext))(a:Option Addr)(cp:Nat)(lo:Bool)(wr:World):Prop where
 at_:ss[k]?=some s
 ok:(S.item s.data.toList).ok=true
 kind:(S.item s.data.toList).kind=(S.item x0).kind
 spec:S.zau (S.za2 d) (S.item x0).kind ss.length ss.length (S.item x0) (dat ss)=(ps.map Prod.fst++(S.zau (S.za2 d) (S.item x0).kind ss.length f (S.item s.data.toList) ((dat ss).drop k)).1,lo||(S.zau (S.za2 d) (S.item x0).kind ss.length f (S.item s.data.toList) ((dat ss).drop k)).2.1,k+(S.zau (S.za2 d) (S.item x0).kind ss.length f (S.item s.data.toList) ((dat ss).drop k)).2.2)
 fuel:ss.length-k<=f
 head:wr.heap[w.heap.size]?=some (.cells #[.int .u8 ((S.item s.data.toList).kind.toNat:Int),.int .i64 (S.item s.data.toList).number,.int .i64 ((S.item s.data.toList).zaa:Nat),.bool (S.item s.data.toList).empty] 186 (0,0))
 res:wr.heap[w.heap.size+1]?=some (.cells #[.int .i64 0,.int .i64 0,.slice none 0 0,.int .i64 0,.string ⟨#[]⟩,.string ⟨#[]⟩,.bool false,.slice none 0 0] 110 (0,0))
 list:wr.heap[w.heap.size+2]?=some (.cells #[.int .i64 6,.int .i64 0,.slice none 0 0,.int .i64 (S.item x0).number,.string ⟨#[]⟩,.string ⟨#[]⟩,.bool lo,.slice a ps.length cp] 110 (0,0))
 own:wr.ownsRow (w.heap.size+3) 110 8 (.slice a ps.length cp) ps.length (cellsOf ps)
 kids:∀(i:Nat) (p:S.Blk × Value × Ext),ps[i]?=some p->Rep wr (λx=>w.heap.size+3<=x/\x<wr.heap.size/\some x≠(Value.slice a ps.length cp).ownBlock) p.2.1 p.1.kids
 below:Below w.heap.size w wr
 count:ps.length<=k
 size:w.heap.size+3<=wr.heap.size
def ztb (w4:World)(P:S.Mark->Prop)(more:Bool)(s12 s13:Value)(wx:World):Prop:=
 ∃(mk:S.Mark) (N:Nat),P mk/\s12=.pointer (some ⟨N,0,none⟩)/\s13=.bool more/\w4.heap.size<=N/\wx.heap[N]?=some (.cells #[.int .u8 (mk.kind.toNat:Int),.int .i64 mk.number,.int .i64 (mk.zaa:Nat),.bool mk.empty] 186 (0,0))/\Below w4.heap.size w4 wx
def After (w w':World):Prop:=Below w.heap.size w w'
theorem zhn {w:World} : After w w.drew:=(Below.refl _ _).drew
theorem zm8 {w:World}{o:Obj} : After w (w.alloc o).drew:=((Below.refl _ _).alloc (Qc _) _).drew
theorem zqq {w:World}{N M o:Nat}{v v0 v1 v2 v3:Value}(h:w.cell? ⟨M,o,none⟩=some v)(hn:N≠M):((((w.setCell ⟨N,0,none⟩ v0).setCell ⟨N,1,none⟩ v1).setCell ⟨N,2,none⟩ v2).setCell ⟨N,3,none⟩ v3).cell? ⟨M,o,none⟩=some v:=by
 rw[World.cell?_of_block (a:=⟨M,o,none⟩) (w:=w)]
 ·exact h
 ·iterate 4 rw[Below.heap_setCell _ _ _ _ (by simpa using hn.symm)]
theorem zmn {w:World}{a:Addr}{v:Value}(h:w.cell? a=some v)(hl:a.block<w.heap.size)(ob:Obj):(w.alloc ob).cell? a=some v:=by
 rw[((Below.refl w.heap.size w).alloc (Qc _) ob).cell (p:=a) hl];exact h
theorem zuk {w4 w5:World}{P:S.Mark->Prop}{more:Bool}{mk:S.Mark}(hP:P mk)(hb:Below w4.drew.heap.size w4.drew w5):ztb w4 P more (.pointer (some ⟨w5.heap.size,0,none⟩)) (.bool more) (w5.alloc (.cells #[.int .u8 (mk.kind.toNat:Int),.int .i64 mk.number,.int .i64 (mk.zaa:Nat),.bool mk.empty] 186)):=by
 have hb':Below w4.heap.size w4 w5:=(Below.refl _ _).drew.trans hb;exact⟨mk,w5.heap.size,hP,rfl,rfl,hb'.size,za1 _ _,hb'.alloc hb'.size _⟩
theorem zuh {w4 w5:World}{P:S.Mark->Prop}{more:Bool}{mk:S.Mark}(hP:P mk)(hb:Below (w4.alloc (.cells #[.int .u8 0,.int .i64 0,.int .i64 0,.bool false] 186)).drew.heap.size (w4.alloc (.cells #[.int .u8 0,.int .i64 0,.int .i64 0,.bool false] 186)).drew w5):ztb w4 P more (.pointer (some ⟨w4.heap.size,0,none⟩)) (.bool more) ((((w5.setCell ⟨w4.heap.size,0,none⟩ (.int .u8 (mk.kind.toNat:Int))).setCell ⟨w4.heap.size,1,none⟩ (.int .i64 mk.number)).setCell ⟨w4.heap.size,2,none⟩ (.int .i64 (mk.zaa:Nat))).setCell ⟨w4.heap.size,3,none⟩ (.bool mk.empty)):=by
 have hS:(w4.alloc (.cells #[.int .u8 0,.int .i64 0,.int .i64 0,.bool false] 186)).drew.heap.size=w4.heap.size+1:=by simp
 have h1:w5.heap[w4.heap.size]?=some (.cells [.int .u8 0,.int .i64 0,.int .i64 0,.bool false].toArray 186 (0,0)):=by
  rw[hb.block _ (by omega)];exact za1 _ _
 have hb':Below w4.heap.size w4 w5:=(((Below.refl _ _).alloc (Qc _) _).drew).trans (hb.mono (by omega));refine⟨mk,w4.heap.size,hP,rfl,rfl,Qc _,za3 (za3 (za3 (za3 h1 0 _) 1 _) 2 _) 3 _,?_⟩;exact Below.setCell (Below.setCell (Below.setCell (Below.setCell hb' (by simp) _) (by simp) _) (by simp) _) (by simp) _
def Mid (w wr:World)(x0:List UInt8)(lo:Bool)(ps:List (S.Blk × Value × Ext))(p:S.Blk × Value × Ext)(g cap1:Nat)(wx:World):Prop:=
 wx.heap[w.heap.size]?=wr.heap[w.heap.size]?/\wx.heap[w.heap.size+1]?=wr.heap[w.heap.size+1]? /\
  wx.heap[w.heap.size+2]?=some (.cells #[.int .i64 6,.int .i64 0,.slice none 0 0,.int .i64 (S.item x0).number,.string ⟨#[]⟩,.string ⟨#[]⟩,.bool lo,(Value.slice (some ⟨g,0,none⟩) (ps.length+1) cap1)] 110 (0,0)) /\
  (∀(i:Nat) (q:S.Blk × Value × Ext),(ps++[p])[i]?=some q->Rep wx (λx=>w.heap.size+3<=x/\x<wx.heap.size/\some x≠some g) q.2.1 q.1.kids) /\
  wx.ownsRow (w.heap.size+3) 110 8 (Value.slice (some ⟨g,0,none⟩) (ps.length+1) cap1) (ps.length+1) (cellsOf ps++six p)/\Below w.heap.size w wx/\w.heap.size+3<=wx.heap.size
theorem z1j {d:Nat}{w wr w2 w3:World}{ss:List ByteArray}{x0:List UInt8}{k f cp g cap1:Nat}{s:ByteArray}{ps:List (S.Blk × Value × Ext)}{a:Option Addr}{lo:Bool}{B:S.Blk}{ln:Ext}{kv:Value}{wX:World}
  (h:zmz d w ss x0 k f s ps a cp lo wr) (hb2:Below wr.heap.size wr w2) (hrep:Rep w2 (λx=>wr.heap.size<=x/\x<w2.heap.size) kv B.kids)
  (hown3:w3.ownsRow (w.heap.size+3) 110 8 (Value.slice (some ⟨g,0,none⟩) (ps.length+1) cap1) (ps.length+1) (cellsOf ps++six (B,kv,ln))) (hbX:Below w2.heap.size w2 wX) (hsX:wX.heap.size=w2.heap.size+1) (hgrow:wX.grownBy w3 (Value.slice a ps.length cp).ownBlock)
  (hat:(Value.slice a ps.length cp).ownBlock=some g\/g=w2.heap.size+1) :
  (w3.setCell ⟨w.heap.size+2,7,none⟩ (Value.slice (some ⟨g,0,none⟩) (ps.length+1) cap1)).heap[w.heap.size]?=wr.heap[w.heap.size]?/\(w3.setCell ⟨w.heap.size+2,7,none⟩ (Value.slice (some ⟨g,0,none⟩) (ps.length+1) cap1)).heap[w.heap.size+1]?=wr.heap[w.heap.size+1]? /\
  (w3.setCell ⟨w.heap.size+2,7,none⟩ (Value.slice (some ⟨g,0,none⟩) (ps.length+1) cap1)).heap[w.heap.size+2]?=some (.cells #[.int .i64 6,.int .i64 0,.slice none 0 0,.int .i64 (S.item x0).number,.string ⟨#[]⟩,.string ⟨#[]⟩,.bool lo,(Value.slice (some ⟨g,0,none⟩) (ps.length+1) cap1)] 110 (0,0)) /\
  (∀(i:Nat) (p:S.Blk × Value × Ext),(ps++[(B,kv,ln)])[i]?=some p->Rep (w3.setCell ⟨w.heap.size+2,7,none⟩ (Value.slice (some ⟨g,0,none⟩) (ps.length+1) cap1)) (λx=>w.heap.size+3<=x/\x<(w3.setCell ⟨w.heap.size+2,7,none⟩ (Value.slice (some ⟨g,0,none⟩) (ps.length+1) cap1)).heap.size/\some x≠some g) p.2.1 p.1.kids) /\
  (w3.setCell ⟨w.heap.size+2,7,none⟩ (Value.slice (some ⟨g,0,none⟩) (ps.length+1) cap1)).ownsRow (w.heap.size+3) 110 8 (Value.slice (some ⟨g,0,none⟩) (ps.length+1) cap1) (ps.length+1) (cellsOf ps++six (B,kv,ln))/\Below w.heap.size w (w3.setCell ⟨w.heap.size+2,7,none⟩ (Value.slice (some ⟨g,0,none⟩) (ps.length+1) cap1))/\w.heap.size+3<=(w3.setCell ⟨w.heap.size+2,7,none⟩ (Value.slice (some ⟨g,0,none⟩) (ps.length+1) cap1)).heap.size/\w3.heap[w.heap.size+2]?=some (.cells #[.int .i64 6,.int .i64 0,.slice none 0 0,.int .i64 (S.item x0).number,.string ⟨#[]⟩,.string ⟨#[]⟩,.bool lo,.slice a ps.length cp] 110 (0,0)):=by
 have hlt:=h.own.lt;have hs0:=h.size;have hs1:=hb2.size;have hs2:=hgrow.size;have hsz:=hsX;have hblk2:∀x,x<w2.heap.size->some x≠(Value.slice a ps.length cp).ownBlock->w3.heap[x]?=w2.heap[x]?:=by
  intro x hx hne;rw[hgrow.block x (by omega) hne,hbX.block x hx]
 have hblk:∀x,x<wr.heap.size->some x≠(Value.slice a ps.length cp).ownBlock->w3.heap[x]?=wr.heap[x]?:=by
  intro x hx hne;rw[hblk2 x (by omega) hne,hb2.block x hx]
 have hlow:∀x,x<w.heap.size+3->some x≠(Value.slice a ps.length cp).ownBlock:=by
  intro x hx e;have:=hlt x e.symm;omega
 have hl3:w3.heap[w.heap.size+2]?=some (.cells #[.int .i64 6,.int .i64 0,.slice none 0 0,.int .i64 (S.item x0).number,.string ⟨#[]⟩,.string ⟨#[]⟩,.bool lo,.slice a ps.length cp] 110 (0,0)):=by
  rw[hblk _ (by omega) (hlow _ (by omega))];exact h.list
 have hset:∀x,x≠w.heap.size+2->(w3.setCell ⟨w.heap.size+2,7,none⟩ (Value.slice (some ⟨g,0,none⟩) (ps.length+1) cap1)).heap[x]?=w3.heap[x]?:=λx hx=>Below.heap_setCell _ _ _ _ hx;have bg:(w3.setCell ⟨w.heap.size+2,7,none⟩ (Value.slice (some ⟨g,0,none⟩) (ps.length+1) cap1)).heap.size=w3.heap.size:=by simp[World.setCell]
 refine⟨?_,?_,?_,?_,?_,?_,by omega,hl3⟩
 ·rw[hset _ (by omega),hblk _ (by omega) (hlow _ (by omega))]
 ·rw[hset _ (by omega),hblk _ (by omega) (hlow _ (by omega))]
 ·exact za3 (cs:=[.int .i64 6,.int .i64 0,.slice none 0 0,.int .i64 (S.item x0).number,.string ⟨#[]⟩,.string ⟨#[]⟩,.bool lo,.slice a ps.length cp]) hl3 7 _
 ·intro i p hi;by_cases hil:i<ps.length
  ·rw[Qbd hil] at hi;refine(h.kids i p hi).move ?_ ?_
   ·intro x hx;refine⟨hx.1,by omega,?_⟩;rcases hat with hat|hat
    ·rw[<-hat];exact hx.2.2
    ·intro e;cases e;omega
   ·intro x hx;rw[hset x (by omega),hblk x hx.2.1 hx.2.2]
  ·rw[Qu (by omega)] at hi;have hi0:i-ps.length=0:=by have:=(Qb.1 hi).1;simp at this;omega
   rw[hi0] at hi;simp at hi;subst hi;refine hrep.move ?_ ?_
   ·intro x hx;refine⟨by omega,by omega,?_⟩;intro e;rcases hat with hat|hat
    ·have:=hlt g hat;cases e;omega
    ·cases e;omega
   ·intro x hx;rw[hset x (by omega)];refine hblk2 x hx.2 (λe=>?_);have:=hlt x e.symm;omega
 ·exact ownsRow_setCell_below hown3 (by simp) _
 ·refine Below.setCell (Below.grown ((h.below.trans (hb2.mono (by omega))).trans (hbX.mono (by omega))) hgrow (by omega) (λq hq=>by have:=(hlt q hq).1;omega)) (by simp) _
theorem zw4 (d:Nat)(w:World)(ss:List ByteArray)(s0:ByteArray)(hs0:ss[0]?=some s0)(hok:(S.item s0.data.toList).ok=true):zmz d w ss s0.data.toList 0 ss.length s0 [] none 0 false (((w.alloc (.cells #[.int .u8 ((S.item s0.data.toList).kind.toNat:Int),.int .i64 (S.item s0.data.toList).number,.int .i64 ((S.item s0.data.toList).zaa:Nat),.bool (S.item s0.data.toList).empty] 186)).alloc (.cells #[.int .i64 0,.int .i64 0,.slice none 0 0,.int .i64 0,.string ⟨#[]⟩,.string ⟨#[]⟩,.bool false,.slice none 0 0] 110)).alloc (.cells #[.int .i64 6,.int .i64 0,.slice none 0 0,.int .i64 (S.item s0.data.toList).number,.string ⟨#[]⟩,.string ⟨#[]⟩,.bool false,.slice none 0 0] 110)):=by
 refine⟨hs0,hok,rfl,by simp,by omega,?_,?_,?_,World.ownsRow_nil _ _ _ _,by intro i p h;simp at h,?_,by simp,by simp⟩
 ·rw[Below.heap_alloc _ _ _ (by simp;omega),Below.heap_alloc _ _ _ (by simp)];exact za1 _ _
 ·have h1:(w.alloc (.cells #[.int .u8 ((S.item s0.data.toList).kind.toNat:Int),.int .i64 (S.item s0.data.toList).number,.int .i64 ((S.item s0.data.toList).zaa:Nat),.bool (S.item s0.data.toList).empty] 186)).heap.size=w.heap.size+1:=by simp
  rw[Below.heap_alloc _ _ _ (by simp),<-h1];exact za1 _ _
 ·have h1:((w.alloc (.cells #[.int .u8 ((S.item s0.data.toList).kind.toNat:Int),.int .i64 (S.item s0.data.toList).number,.int .i64 ((S.item s0.data.toList).zaa:Nat),.bool (S.item s0.data.toList).empty] 186)).alloc (.cells #[.int .i64 0,.int .i64 0,.slice none 0 0,.int .i64 0,.string ⟨#[]⟩,.string ⟨#[]⟩,.bool false,.slice none 0 0] 110)).heap.size=w.heap.size+2:=by simp
  rw[<-h1];exact za1 _ _
 ·exact(((Below.refl _ w).alloc (Qc _) _).alloc (by simp) _).alloc (by simp;omega) _
theorem zej {w W:World}{base:Nat}{e:TypeId}{size:Nat}{v:Value}{n:Nat}{xs:List Value}(h:w.ownsRow base e size v n xs)(hs:∀x,base<=x->x<w.heap.size->W.heap[x]?=w.heap[x]?):W.ownsRow base e size v n xs:=by
 obtain⟨h1,h2⟩:=h;refine⟨h1,?_⟩;rcases h2 with h2|⟨g,cap,cur,hv,hg,hh,r⟩
 ·exact Or.inl h2
 ·exact Or.inr ⟨g,cap,cur,hv,hg,by rw[hs g hg (Qq.1 hh).1];exact hh,r⟩
theorem zqv {w w4 wc W:World}{g cap1:Nat}{ps:List (S.Blk × Value × Ext)}(hb5:Below w4.heap.size w4 wc)(hW:∀x,w.heap.size+3<=x->x<wc.heap.size->W.heap[x]?=wc.heap[x]?)(hWs:W.heap.size=wc.heap.size)
  (hown:w4.ownsRow (w.heap.size+3) 110 8 (Value.slice (some ⟨g,0,none⟩) ps.length cap1) ps.length (cellsOf ps))
  (hk:∀(i:Nat) (p:S.Blk × Value × Ext),ps[i]?=some p->Rep w4 (λx=>w.heap.size+3<=x/\x<w4.heap.size/\some x≠some g) p.2.1 p.1.kids) :
  W.ownsRow (w.heap.size+3) 110 8 (Value.slice (some ⟨g,0,none⟩) ps.length cap1) ps.length (cellsOf ps)/\(∀(i:Nat) (p:S.Blk × Value × Ext),ps[i]?=some p->Rep W (λx=>w.heap.size+3<=x/\x<W.heap.size/\some x≠some g) p.2.1 p.1.kids):=by
 have hs5:=hb5.size;have key:∀x,w.heap.size+3<=x->x<w4.heap.size->W.heap[x]?=w4.heap[x]?:=λx h1 h2=>(hW x h1 (by omega)).trans (hb5.block x h2);exact⟨zej hown key,λi p hp=>(hk i p hp).move (λx hx=>⟨hx.1,by omega,hx.2.2⟩) (λx hx=>key x hx.1 hx.2.1)⟩
theorem zx8 {d:Nat}{w wr:World}{ss:List ByteArray}{x0:List UInt8}{k f cp gp n:Nat}{s:ByteArray}{ps:List (S.Blk × Value × Ext)}{a:Option Addr}{lo:Bool}{it:S.Mark}{O:List (List UInt8)}{rr:List S.Blk × Bool}{kv:Value}{ln:Ext}
  (h:zmz d w ss x0 k f s ps a cp lo wr) (hit:S.item s.data.toList=it) (hO:S.zah it ((dat ss).drop k)=O) (hrr:S.za2 d O=rr) (hn:n=O.length) (hgp:S.za6 ((dat ss).drop (k+n))=gp) (hm:(S.zaw (S.item x0).kind ((dat ss).drop (k+n+gp))).ok=true) :
  ∃s',ss[k+n+gp]?=some s'/\S.zaw (S.item x0).kind ((dat ss).drop (k+n+gp))=S.item s'.data.toList/\(S.item s'.data.toList).ok=true/\(S.item s'.data.toList).kind=(S.item x0).kind /\
   S.zau (S.za2 d) (S.item x0).kind ss.length ss.length (S.item x0) (dat ss)=((ps++[(S.Blk.at_ (k:Int) 7 0 [] [] false rr.1,kv,ln)]).map Prod.fst++(S.zau (S.za2 d) (S.item x0).kind ss.length (f-1) (S.item s'.data.toList) ((dat ss).drop (k+n+gp))).1,(lo||rr.2||decide (0<gp))||(S.zau (S.za2 d) (S.item x0).kind ss.length (f-1) (S.item s'.data.toList) ((dat ss).drop (k+n+gp))).2.1,k+n+gp+(S.zau (S.za2 d) (S.item x0).kind ss.length (f-1) (S.item s'.data.toList) ((dat ss).drop (k+n+gp))).2.2):=by
 have hlt:k<ss.length:=(Qb.1 h.at_).1;obtain⟨f',rfl⟩:∃f',f=f' + 1:=⟨f-1,by have:=h.fuel;omega⟩;obtain⟨l,r,hl⟩:∃l r,(dat ss).drop (k+n+gp)=l::r:=by
  cases hd:(dat ss).drop (k+n+gp) with
  | nil=>rw[hd] at hm;simp[S.zaw] at hm
  | cons l r=>exact⟨l,r,rfl⟩
 obtain⟨e1,e2,e3⟩:=S.zf9 _ l r (by rw[<-hl];exact hm);have hg:(dat ss)[k+n+gp]?=some l:=by
  have:=congrArg (λx=>x[0]?) hl;simpa [List.getElem?_drop] using this
 rw[zd0] at hg;obtain⟨s',hs',rfl⟩:=Option.map_eq_some_iff.1 hg;refine⟨s',hs',by rw[hl];exact e1,e3,e2,?_⟩;have d1:((dat ss).drop k).drop O.length=(dat ss).drop (k+n):=by rw[Qbb,hn]
 have d2:((dat ss).drop k).drop (O.length+gp)=(dat ss).drop (k+n+gp):=by rw[Qbb,hn,Nat.add_assoc]
 have hsp:=h.spec;have hln:((ss.length-((dat ss).drop k).length:Nat):Int)=(k:Int):=by rw[Qf,zai];omega
 rw[hit,S.zdd,hO,hrr,hln,d1,hgp,d2,if_pos hm,hl,e1,<-hl] at hsp;rw[hsp,Nat.add_sub_cancel];refine Prod.ext (by simp) (Prod.ext ?_ ?_)
 ·simp[Bool.or_assoc]
 ·simp only[];omega
theorem zyw {d:Nat}{w wr:World}{ss:List ByteArray}{x0:List UInt8}{k f cp gp n:Nat}{s:ByteArray}{ps:List (S.Blk × Value × Ext)}{a:Option Addr}{lo:Bool}{it:S.Mark}{O:List (List UInt8)}{rr:List S.Blk × Bool}{kv:Value}{ln:Ext}
  (h:zmz d w ss x0 k f s ps a cp lo wr) (hit:S.item s.data.toList=it) (hO:S.zah it ((dat ss).drop k)=O) (hrr:S.za2 d O=rr) (hn:n=O.length) (hgp:S.za6 ((dat ss).drop (k+n))=gp) (hm:(S.zaw (S.item x0).kind ((dat ss).drop (k+n+gp))).ok=false) :
  S.zau (S.za2 d) (S.item x0).kind ss.length ss.length (S.item x0) (dat ss)=((ps++[(S.Blk.at_ (k:Int) 7 0 [] [] false rr.1,kv,ln)]).map Prod.fst,lo||rr.2,k+n):=by
 have hlt:k<ss.length:=(Qb.1 h.at_).1;obtain⟨f',rfl⟩:∃f',f=f' + 1:=⟨f-1,by have:=h.fuel;omega⟩;have d1:((dat ss).drop k).drop O.length=(dat ss).drop (k+n):=by rw[Qbb,hn]
 have d2:((dat ss).drop k).drop (O.length+gp)=(dat ss).drop (k+n+gp):=by rw[Qbb,hn,Nat.add_assoc]
 have hsp:=h.spec;have hln:((ss.length-((dat ss).drop k).length:Nat):Int)=(k:Int):=by rw[Qf,zai];omega
 rw[hit,S.zdd,hO,hrr,hln,d1,hgp,d2,if_neg (by rw[hm];simp)] at hsp;rw[hsp];refine Prod.ext (by simp) (Prod.ext (by simp) ?_);simp[hn]
theorem zka {w:World}{N:Nat}(v0 v1 v2 v3:Value)(b:Nat)(h:b≠N):((((w.setCell ⟨N,0,none⟩ v0).setCell ⟨N,1,none⟩ v1).setCell ⟨N,2,none⟩ v2).setCell ⟨N,3,none⟩ v3).heap[b]?=w.heap[b]?:=by
 iterate 4 rw[Below.heap_setCell _ _ _ _ (by simpa using h)]
theorem zqn {w:World}{N:Nat}(v0 v1 v2 v3:Value):((((w.setCell ⟨N,0,none⟩ v0).setCell ⟨N,1,none⟩ v1).setCell ⟨N,2,none⟩ v2).setCell ⟨N,3,none⟩ v3).heap.size=w.heap.size:=by simp[World.setCell]
theorem zzs {w:World}{N T:Nat}{u0 u1 u2 u3:Value}(h:w.heap[N]?=some (.cells [u0,u1,u2,u3].toArray T (0,0)))(v0 v1 v2 v3:Value):((((w.setCell ⟨N,0,none⟩ v0).setCell ⟨N,1,none⟩ v1).setCell ⟨N,2,none⟩ v2).setCell ⟨N,3,none⟩ v3).heap[N]?=some (.cells #[v0,v1,v2,v3] T (0,0)):=
 za3 (za3 (za3 (za3 h 0 v0) 1 v1) 2 v2) 3 v3
theorem zzq {w:World}{N T:Nat}{u0 u1 u2 u3 u4 u5 u6 u7:Value}(h:w.heap[N]?=some (.cells [u0,u1,u2,u3,u4,u5,u6,u7].toArray T (0,0)))(v0 v1 v2 v3 v4 v5 v6 v7:Value):((((((((w.setCell ⟨N,0,none⟩ v0).setCell ⟨N,1,none⟩ v1).setCell ⟨N,2,none⟩ v2).setCell ⟨N,3,none⟩ v3).setCell ⟨N,4,none⟩ v4).setCell ⟨N,5,none⟩ v5).setCell ⟨N,6,none⟩ v6).setCell ⟨N,7,none⟩ v7).heap[N]?=some (.cells #[v0,v1,v2,v3,v4,v5,v6,v7] T (0,0)):=
 za3 (za3 (za3 (za3 (za3 (za3 (za3 (za3 h 0 v0) 1 v1) 2 v2) 3 v3) 4 v4) 5 v5) 6 v6) 7 v7
theorem zoc (d:Nat)(hR:zpq d)(b o cap:Nat)(ss:List ByteArray)(s0:ByteArray)(w:World)(hs0:ss[0]?=some s0)(hcap:ss.length<=cap)(hbw:b<w.heap.size)(hrow:RowS w b o ss)(henv:Env w)(hd:bytes (dat ss)<=d)(hok0:(S.item s0.data.toList).ok=true):Calls prog 122 #[.slice (some ⟨b,o,none⟩) ss.length cap,.agg #[.int .u8 ((S.item s0.data.toList).kind.toNat:Int),.int .i64 (S.item s0.data.toList).number,.int .i64 ((S.item s0.data.toList).zaa:Nat),.bool (S.item s0.data.toList).empty]] w λe w'=>
   ∃kv,e=.returned (.tuple #[zdu (S.zbh (S.za2 d) (S.item s0.data.toList) (dat ss)).1 kv,.int .i64 ((S.zbh (S.za2 d) (S.item s0.data.toList) (dat ss)).2:Nat)])/\Rep w' (λx=>w.heap.size<=x/\x<w'.heap.size) kv (S.zbh (S.za2 d) (S.item s0.data.toList) (dat ss)).1.kids/\Below w.heap.size w w':=by
 have htot:=hrow.2;have hlen:=hrow.len;obtain⟨i0,hi,hz0,hz1,hz2⟩:=info_parts Tryz.zxg;have hstart:=hid (zw4 d w ss s0 hs0 hok0);have hRH:=hid hR;obtain⟨x0,hx0⟩:=Qzz (s0.data.toList);rw[<-hx0] at hstart ⊢;have jw:Hid (S.zbh (S.za2 d) (S.item x0) (dat ss)=(.mk 6 (S.item x0).number [] [] (S.zau (S.za2 d) (S.item x0).kind ss.length ss.length (S.item x0) (dat ss)).2.1 (S.zau (S.za2 d) (S.item x0).kind ss.length ss.length (S.item x0) (dat ss)).1,(S.zau (S.za2 d) (S.item x0).kind ss.length ss.length (S.item x0) (dat ss)).2.2)):=hid (by rw[S.zf5,zai]);clear hs0 hok0 hx0 hR;go_enter func122,ntmps122;go_wp2;go_loopw [7,8,9,10,11,12,13] (λz _ _ _ _ _ _ wr=>∃(k f:Nat) (s:ByteArray) (ps:List (S.Blk × Value × Ext)) (a:Option Addr) (cp:Nat) (lo:Bool),z=.int .i64 k/\zmz d w ss x0 k f s ps a cp lo wr) (λz _ _ _ _ _ _ _=>ss.length-(intOf z).toNat)
 case atStart=>exact⟨0,ss.length,s0,[],none,0,false,rfl,hstart.out⟩
 case round=>
  obtain⟨k,f,s,ps,a,cp,lo,rfl,hrel'⟩:=hrel;have hr:=hid hrel';have hlt:k<ss.length:=(Qb.1 hrel'.at_).1;have hsz:=hrel'.size;obtain⟨it,hit⟩:=Qyy (S.item s.data.toList);have hmg:it.zaa<=1000000:=by
   rw[<-hit];have:=S.zmd s.data.toList;rw[S.lda] at this;have:=zdg _ _ s hrel'.at_;omega
  have hH:=hrel'.head;rw[hit] at hH;have q0:=za0 hH 0 _ rfl;have q1:=za0 hH 1 _ rfl;have q2:=za0 hH 2 _ rfl;have q3:=za0 hH 3 _ rfl;have jh:=hid hit;have hIR:Hid (∀wx,Below wr.heap.size wr wx->Calls prog 180 #[.slice (some ⟨b,o+k,none⟩) (ss.length-k) (cap-k),.agg #[.int .u8 (it.kind.toNat:Int),.int .i64 it.number,.int .i64 (it.zaa:Int),.bool it.empty]] wx λe w'=>
    ∃N os,e=.returned (.slice (some ⟨N,0,none⟩) os.length os.length)/\RowS w' N 0 os/\Hid (dat os=S.zah it ((dat ss).drop k))/\0<os.length/\os.length<=ss.length-k/\wx.heap.size<=N/\N<w'.heap.size/\Below wx.heap.size wx w'):=hid (λwx hwx=>by
   have hbel:=hr.out.below.trans (hwx.mono (by omega));have:=zsw b (o+k) (cap-k) (ss.drop k) it.kind it wx (by rw[Qf];omega) (by have:=hbel.size;omega) ((hrow.below hbel hbw).drop k) hmg;rw[Qf,zj6] at this;exact this)
  have xg:=hid (hIR.out wr.drew (Below.refl _ _).drew);clear hrel' hH hit hIR;have hI0:(0:Int)<=(k:Int):=by omega
  have hI1:(k:Int)<=(ss.length:Int):=by omega
  have hI2:(k:Int)<(cap:Int):=by omega
  have hkc:k<cap:=by omega
  have hck:¬cap=k:=by omega
  go_wp2_with fail
  go_region_held3 (λw'=>w'.cell? ⟨w.heap.size,0,none⟩=some (.int .u8 (it.kind.toNat:Int))/\w'.cell? ⟨w.heap.size,1,none⟩=some (.int .i64 it.number)/\w'.cell? ⟨w.heap.size,2,none⟩=some (.int .i64 (it.zaa:Nat))/\w'.cell? ⟨w.heap.size,3,none⟩=some (.bool it.empty))
   ((refine⟨?_,?_,?_,?_⟩<;>(first|assumption|(rw[hc1 _ _ (by show w.heap.size<wr.heap.size;omega)];assumption))))
   ((go_at_call 180;refine xg.out.mono ?_;rintro e w1⟨N,os,rfl,hrO,yg,hposO,hleO,hN1,hN2,hb1⟩;obtain⟨hc1,hf1⟩:=zne hb1))
  have jq:Below wr.heap.size wr w1:=by first|exact hb1|exact(Below.refl _ _).drew.trans hb1
  have kr:=hr.out.below.trans (jq.mono (by omega));obtain⟨O,hO⟩:=Qyy (S.zah it ((dat ss).drop k));have hOl:os.length=O.length:=by rw[<-hO,<-yg.out,zai]
  obtain⟨rr,hrr⟩:=Qyy (S.za2 d O);have hRR:Hid (Calls prog 64 #[.slice (some ⟨N,0,none⟩) os.length os.length] w1 λe w'=>∃v,e=.returned (.tuple #[v,.bool rr.2])/\Rep w' (λx=>w1.heap.size<=x/\x<w'.heap.size) v rr.1/\Below w1.heap.size w1 w'):=hid (by
   have:=hRH.out N 0 os.length os w1 (Qc _) hN2 hrO (henv.below kr) (by
    rw[yg.out];have h1:(dat ss).drop k=s.data.toList::(dat ss).drop (k+1):=by
     have hg:(dat ss)[k]?=some s.data.toList:=(by rw[zd0,hr.out.at_];rfl);obtain⟨hl,hx⟩:=Qb.1 hg;rw[Qm hl,hx]
    have h2:=S.zvu s.data.toList ((dat ss).drop (k+1)) hr.out.ok;rw[<-h1,jh.out] at h2;have h3:=zhh (dat ss) k;omega)
   rw[yg.out,hO,hrr] at this;exact this)
  have wh:=hid jq;have hOH:=hid hO;have qp:=hid hrr;have wm:=hid hOl;have hs1:wr.heap.size<=w1.heap.size:=jq.size;clear hb1 jq kr hc1 hf1 hO hrr hOl hrO yg hN1 hN2 q1 q2 q3 xg;go_wp2_with fail
  refine hRR.out.mono ?_;rintro e w2⟨kv,rfl,hrep,hb2⟩;obtain⟨ka,kn,kc,rfl⟩:=hrep.form;have jm:=wh.out.trans (hb2.mono hs1);have hs2:w1.heap.size<=w2.heap.size:=hb2.size;have hl2:=(jm.block (w.heap.size+2) (by omega)).trans hr.out.list;have c5:=za0 hl2 7 _ rfl;have f5:=za7 hl2;have hown1:w2.ownsRow (w.heap.size+3) 110 8 (.slice a ps.length cp) ps.length (cellsOf ps):=hr.out.own.kept (Below.zfn jm) (by
   cases h:(Value.slice a ps.length cp).ownBlock with
   | none=>exact .inl rfl
   | some g=>exact .inr (by simp))
  have hown2:=hid (λo1=>hown1.alloc o1);have hnew:Hid (∀j u,(six (.at_ (k:Int) 7 0 [] [] false rr.1,.slice ka kn kc,(⟨some ⟨b,o+k,none⟩,os.length,cap-k⟩:Ext)))[j]?=some u->(w2.alloc (.cells #[.int .i64 7,.int .i64 (k:Int),.slice (some ⟨b,o+k,none⟩) os.length (cap-k),.int .i64 0,.string ⟨#[]⟩,.string ⟨#[]⟩,.bool false,.slice ka kn kc] 110)).cell? ((⟨w2.heap.size,0,none⟩:Addr).add j)=some u):=hid (by
   intro j u hj;have ha:(⟨w2.heap.size,0,none⟩:Addr).add j=⟨w2.heap.size,j,none⟩:=by
    simp only[Addr.add];split
    ·rename_i h;simp<;>omega
    ·simp<;>omega
   rw[ha];exact za0 (za1 _ _) j u (by rw[<-hj];simp[six];rfl))
  have hone:Hid (∀u∈six (.at_ (k:Int) 7 0 [] [] false rr.1,.slice ka kn kc,(⟨some ⟨b,o+k,none⟩,os.length,cap-k⟩:Ext)),u.oneCell'=true):=hid (by
   intro u hu;simp[six] at hu;rcases hu with rfl|rfl|rfl|rfl|rfl|rfl|rfl|rfl<;>rfl)
  have hcnt:=hr.out.count;have qx:=hid hrep;have vw:=hid jm;have hl2H:=hid hl2;clear hrep hb2 jm hown1 hl2 hRR;have vg:Hid (∀(wX w3:World) (g cap1:Nat),Below w2.heap.size w2 wX->wX.heap.size=w2.heap.size+1->w3.ownsRow (w.heap.size+3) 110 8 (Value.slice (some ⟨g,0,none⟩) (ps.length+1) cap1) (ps.length+1) (cellsOf ps++six (.at_ (k:Int) 7 0 [] [] false rr.1,.slice ka kn kc,(⟨some ⟨b,o+k,none⟩,os.length,cap-k⟩:Ext)))->wX.grownBy w3 (Value.slice a ps.length cp).ownBlock->((Value.slice a ps.length cp).ownBlock=some g\/g=w2.heap.size+1) ->
    Mid w wr x0 lo ps (S.Blk.at_ (k:Int) 7 0 [] [] false rr.1,.slice ka kn kc,(⟨some ⟨b,o+k,none⟩,os.length,cap-k⟩:Ext)) g cap1 (w3.setCell ⟨w.heap.size+2,7,none⟩ (Value.slice (some ⟨g,0,none⟩) (ps.length+1) cap1))/\w3.heap[w.heap.size+2]?=some (.cells #[.int .i64 6,.int .i64 0,.slice none 0 0,.int .i64 (S.item x0).number,.string ⟨#[]⟩,.string ⟨#[]⟩,.bool lo,.slice a ps.length cp] 110 (0,0))):=hid (λwX w3 g cap1 h1 h2 h3 h4 h5=>by
   have hm:=z1j hr.out vw.out (qx.out.move (A':=λx=>wr.heap.size<=x/\x<w2.heap.size) (λx hx=>⟨Qj hs1 hx.1,hx.2⟩) (λ_ _=>rfl)) h3 h1 h2 h4 h5;exact⟨⟨hm.1,hm.2.1,hm.2.2.1,hm.2.2.2.1,hm.2.2.2.2.1,hm.2.2.2.2.2.1,hm.2.2.2.2.2.2.1⟩,hm.2.2.2.2.2.2.2⟩)
  have c5a:∀ob,(w2.alloc ob).cell? ⟨w.heap.size+2,7,none⟩=some (.slice a ps.length cp):=λob=>zmn c5 (by show w.heap.size+2<w2.heap.size;omega) ob;have hI3:(0:Int)<=(k:Int)+(os.length:Int):=by omega
  have hI4:(k:Int)<=(k:Int)+(os.length:Int):=by omega
  have hI5:(k:Int)+(os.length:Int)<=(cap:Int):=by omega
  have hI6:(k:Int)+(os.length:Int)<=(ss.length:Int):=by omega
  have yw:IntKind.i64.wrap ((k:Int)+(os.length:Int))=(k:Int)+(os.length:Int):=by rw[IntKind.wrap_i64];omega
  have qh:((k:Int)+(os.length:Int)).toNat=k+os.length:=by omega
  have qm:k+os.length-k=os.length:=by omega
  go_upto_region 5 with fail
  go_cut [7] (λs7 wx=>s7=.int .i64 k/\∃g cap1,Hid (Mid w wr x0 lo ps (S.Blk.at_ (k:Int) 7 0 [] [] false rr.1,.slice ka kn kc,(⟨some ⟨b,o+k,none⟩,os.length,cap-k⟩:Ext)) g cap1 wx))
  case first=>
   go_region_law ((refine step_append_lies _ (by rfl) _ _ 77 (by rfl) (w.heap.size+3) 110 i0 (.agg #[.int .i64 0,.int .i64 0,.slice none 0 0,.int .i64 0,.string ⟨#[]⟩,.string ⟨#[]⟩,.bool false,.slice none 0 0]) 8 112 underlying77 hi hz0 hz1 hz2 (by rfl) (by omega) (.slice a ps.length cp) ps.length (cellsOf ps) (by rfl) (hown2.out _) ⟨w2.heap.size,0,none⟩ 1 1 (six (.at_ (k:Int) 7 0 [] [] false rr.1,.slice ka kn kc,(⟨some ⟨b,o+k,none⟩,os.length,cap-k⟩:Ext))) (by rfl) (by rfl) hnew.out hone.out (by omega) (by unfold maxLen;omega) (by omega) (by simp;omega) (w2.heap.size+1) (by simp) ?_;intro g cap1 w3 hown3 hgrow hat zq;have yc:=vg.out _ w3 g cap1 ((Below.refl _ w2).drew.alloc (Qc _) _) (by simp) hown3 hgrow hat;have c5':=za0 yc.2 7 _ rfl;have f5':=za7 yc.2))
   all_goals (have hmF:=hid yc.1;clear hown3 hgrow hat zq yc)
   all_goals (go_wp2_with fail;go_meet;exact⟨rfl,g,cap1,hmF⟩)
  case rest=>
  obtain⟨rfl,g,cap1,hmid⟩:=hcut;obtain⟨w4,hw4⟩:=Qzz (wc);subst hw4;clear c5 f5 c5a hI3 hI4 hI5 hI6 yw qh qm;have hzl:k+os.length<=ss.length:=by omega
  obtain⟨gp,zx⟩:=Qyy (S.za6 ((dat ss).drop (k+os.length)));have hgl:k+os.length+gp<=ss.length:=by have:=S.zev ((dat ss).drop (k+os.length));rw[Qf,zai,zx] at this;omega
  have gy:Below w.heap.size w w4:=hmid.out.2.2.2.2.2.1;have hrow4:=hid (hrow.below gy hbw);have vv:=hid (henv.below gy);have hb4:b<w4.heap.size:=by have:=gy.size;omega
  have pq:=hid zx;clear gy zx;go_upto_region 7 with fail
  go_cut [11] (λs11 wx=>s11=.int .i64 (gp:Nat)/\w4=wx)
  case first=>
   by_cases hkc2:k+os.length<cap
   ·have hCB:Hid (Calls prog 84 #[.slice (some ⟨b,o+(k+os.length),none⟩) (ss.length-(k+os.length)) (cap-(k+os.length))] w4 λe w'=>e=.returned (.int .i64 (gp:Nat))/\w4=w'):=hid (by
     have:=zdk b (o+(k+os.length)) (cap-(k+os.length)) (ss.drop (k+os.length)) w4 (by rw[Qf];omega) (hrow4.out.drop (k+os.length)).row;rw[Qf,zj6,pq.out] at this;exact this.mono (λe w' ⟨h1,h2⟩=>⟨h1,h2.symm⟩))
    go_wp2_with (fail);refine hCB.out.mono ?_;rintro e w'⟨rfl,rfl⟩;go_wp2_with (fail);go_meet;exact⟨rfl,rfl⟩
   ·obtain rfl:cap=k+os.length:=by omega
    have hg0:gp=0:=(by omega);subst hg0;have hCB:Hid (Calls prog 84 #[.slice (some ⟨b,o,none⟩) 0 0] w4 λe w'=>e=.returned (.int .i64 0)/\w4=w'):=hid (by
     have:=zdk b o 0 [] w4 (by simp) (λi s h=>by simp at h);exact this.mono (λe w' ⟨h1,h2⟩=>⟨h1,h2.symm⟩))
    have hle1:ss.length<=k+os.length:=(by omega);clear hkc2;go_wp2_with (fail);refine hCB.out.mono ?_;rintro e w'⟨rfl,rfl⟩;go_wp2_with (fail);go_meet;exact⟨rfl,rfl⟩
  case rest=>
  obtain⟨rfl,rfl⟩:=hcut;have vk:Hid ((S.item x0).kind=it.kind):=hid (by rw[<-jh.out,hr.out.kind]);obtain⟨more,hmore⟩:=Qyy ((S.zaw (S.item x0).kind ((dat ss).drop (k+os.length+gp))).ok);have bg:=hid hmore;have zw:=hmid.out.1.trans hr.out.head;rw[jh.out] at zw;have p0:=za0 zw 0 _ rfl;have qg:∀ob,(w4.alloc ob).cell? ⟨w.heap.size,0,none⟩=some (.int .u8 (it.kind.toNat:Int)):=λob=>by
   rw[((Below.refl w4.heap.size w4).alloc (Qc _) ob).cell (p:=⟨w.heap.size,0,none⟩) (by have:=hmid.out.2.2.2.2.2.2;show w.heap.size<_;omega)];exact p0
  have yj:w4.drew.cell? ⟨w.heap.size,0,none⟩=some (.int .u8 (it.kind.toNat:Int)):=p0;have mq:∀ob,(w4.alloc ob).drew.cell? ⟨w.heap.size,0,none⟩=some (.int .u8 (it.kind.toNat:Int)):=qg;have mh:∀ob,(w4.drew.alloc ob).cell? ⟨w.heap.size,0,none⟩=some (.int .u8 (it.kind.toNat:Int)):=qg;have dx:w.heap.size<w4.heap.size:=by have:=hmid.out.2.2.2.2.2.2;omega
  have ng:w4.heap.size≠w.heap.size:=by omega
  have qz:w.heap.size≠w4.heap.size:=by omega
  have jl:w4.heap.size<=(w4.alloc (.cells #[.int .u8 0,.int .i64 0,.int .i64 0,.bool false] 186)).drew.heap.size:=by simp
  have hJ0:(0:Int)<=(k:Int)+(os.length:Int)+(gp:Int):=by omega
  have hJ1:(k:Int)+(os.length:Int)+(gp:Int)<=(ss.length:Int):=by omega
  have yt:IntKind.i64.wrap ((k:Int)+(os.length:Int)+(gp:Int))=(k:Int)+(os.length:Int)+(gp:Int):=by rw[IntKind.wrap_i64];omega
  have yx:((k:Int)+(os.length:Int)+(gp:Int)).toNat=k+os.length+gp:=by omega
  clear hmore zw;go_upto_region 8 with fail
  go_cut [12,13] (λs12 s13 wx=>ztb w4 (λmk=>Hid (more=true->mk=(S.zaw (S.item x0).kind ((dat ss).drop (k+os.length+gp))))) more s12 s13 wx)
  case first=>
   by_cases hkc3:k+os.length+gp<cap
   ·have hJ2:(k:Int)+(os.length:Int)+(gp:Int)<(cap:Int):=(by omega);have hck3:¬cap=k+os.length+gp:=(by omega);have hNX:Hid (∀wx,After w4 wx->Calls prog 181 #[.slice (some ⟨b,o+(k+os.length+gp),none⟩) (ss.length-(k+os.length+gp)) (cap-(k+os.length+gp)),.int .u8 (it.kind.toNat:Int)] wx λe w'=>∃mk:S.Mark,e=.returned (.tuple #[.agg #[.int .u8 (mk.kind.toNat:Int),.int .i64 mk.number,.int .i64 (mk.zaa:Nat),.bool mk.empty],.bool more])/\Hid (more=true->mk=(S.zaw (S.item x0).kind ((dat ss).drop (k+os.length+gp))))/\Below wx.heap.size wx w'):=hid (λwx hwx=>by
     have hb:=hwx.size;have:=zr5 b (o+(k+os.length+gp)) (cap-(k+os.length+gp)) (ss.drop (k+os.length+gp)) (S.item x0).kind wx (by omega) ((hrow4.out.below hwx hb4).drop _) (vv.out.below hwx);rw[Qf,zj6] at this;rw[bg.out,vk.out] at this;exact this.mono (λe w' ⟨mk,h1,h2,h3⟩=>⟨mk,h1,hid (by rw[vk.out];exact h2.out),h3⟩))
    go_region_held3 (λw'=>w'.cell? ⟨w.heap.size,0,none⟩=some (.int .u8 (it.kind.toNat:Int)))
     (first|with_reducible exact yj|with_reducible exact mq _|with_reducible exact mh _|with_reducible exact p5|with_reducible exact zmn p5 hl5 _|with_reducible exact zqq p5 ng)
     ((go_at_call 181;refine(hNX.out _ (by first|exact zhn|exact zm8)).mono ?_;rintro e w5⟨mk,rfl,hmk,hb5⟩;have hl5:w.heap.size<w5.heap.size:=Qh (by first|exact dx|exact Qh dx jl) hb5.size;have p5:w5.cell? ⟨w.heap.size,0,none⟩=some (.int .u8 (it.kind.toNat:Int)):=(hb5.cell (p:=⟨w.heap.size,0,none⟩) (by first|exact dx|exact Qh dx jl)).trans (by first|exact p0|exact qg _);obtain⟨hc5,hf5⟩:=zne hb5))
    ·go_wp2_with (fail);go_meet;exact zuk hmk hb5
    ·go_wp2_with (fail);go_meet;exact zuh hmk hb5
   ·have hle1:ss.length<=k+os.length+gp:=(by omega);have hm0:Hid (more=false):=hid (by rw[<-bg.out,Qw (by rw[zai];omega)];rfl);obtain rfl:cap=k+os.length+gp:=by omega
    have hNX:Hid (∀wx,After w4 wx->Calls prog 181 #[.slice (some ⟨b,o,none⟩) 0 0,.int .u8 (it.kind.toNat:Int)] wx λe w'=>∃mk:S.Mark,e=.returned (.tuple #[.agg #[.int .u8 (mk.kind.toNat:Int),.int .i64 mk.number,.int .i64 (mk.zaa:Nat),.bool mk.empty],.bool more])/\Hid (more=true->mk=(S.zaw (S.item x0).kind ((dat ss).drop (k+os.length+gp))))/\Below wx.heap.size wx w'):=hid (λwx hwx=>(zke _ 0 it.kind wx).mono (λe w' ⟨h1,h2⟩=>⟨⟨0,0,0,false,false⟩,by rw[h1,hm0.out];rfl,hid (by intro h;rw[hm0.out] at h;cases h),h2⟩));clear hkc3;go_region_held3 (λw'=>w'.cell? ⟨w.heap.size,0,none⟩=some (.int .u8 (it.kind.toNat:Int)))
     (first|with_reducible exact yj|with_reducible exact mq _|with_reducible exact mh _|with_reducible exact p5|with_reducible exact zmn p5 hl5 _|with_reducible exact zqq p5 ng)
     ((go_at_call 181;refine(hNX.out _ (by first|exact zhn|exact zm8)).mono ?_;rintro e w5⟨mk,rfl,hmk,hb5⟩;have hl5:w.heap.size<w5.heap.size:=Qh (by first|exact dx|exact Qh dx jl) hb5.size;have p5:w5.cell? ⟨w.heap.size,0,none⟩=some (.int .u8 (it.kind.toNat:Int)):=(hb5.cell (p:=⟨w.heap.size,0,none⟩) (by first|exact dx|exact Qh dx jl)).trans (by first|exact p0|exact qg _);obtain⟨hc5,hf5⟩:=zne hb5))
    ·go_wp2_with (fail);go_meet;exact zuk hmk hb5
    ·go_wp2_with (fail);go_meet;exact zuh hmk hb5
  case rest=>
  obtain⟨mk,N,hmk,rfl,rfl,hN1,hNB,hb5⟩:=hcut;have hs4:w.heap.size+3<=w4.heap.size:=hmid.out.2.2.2.2.2.2;have hs5:w4.heap.size<=wc.heap.size:=hb5.size;have hHd:=(hb5.block w.heap.size (by omega)).trans (hmid.out.1.trans hr.out.head);have hRs:=(hb5.block (w.heap.size+1) (by omega)).trans (hmid.out.2.1.trans hr.out.res);have yh:=(hb5.block (w.heap.size+2) (by omega)).trans hmid.out.2.2.1;obtain⟨pb,hpb⟩:=Qyy (rr.2);have qy:=hid hpb;rw[hpb];have l4:=za0 yh 6 _ rfl;have lf:=za7 yh;have hHdH:=hid hHd;have zy:=hid hRs;have hLsH:=hid yh;have hNBH:=hid hNB;have qb:=hid hb5;clear hHd hRs yh hNB hb5 hpb p0 qg yj mq mh ng qz jl hJ0 hJ1 yt yx dx;go_upto_region 9 with fail
  go_cut [13] (λs13 wx=>s13=.bool more/\wc.setCell ⟨w.heap.size+2,6,none⟩ (.bool (lo||pb||(more&&decide (0<gp))))=wx)
  case first=>
   have hz:(gp:Int)<=(ss.length:Int):=by omega
   by_cases h0:0<gp
   ·have hd0:decide (0<gp)=true:=decide_eq_true h0;have hi0:(0:Int)<(gp:Int):=(by omega);have pz:=hid hd0;clear hd0;cases lo<;>cases pb<;>cases more<;>(go_wp2;go_meet;first|exact⟨rfl,rfl⟩|exact⟨rfl,by rw[pz.out];rfl⟩)
   ·have hd0:decide (0<gp)=false:=decide_eq_false h0;have hi0:¬(0:Int)<(gp:Int):=(by omega);have pz:=hid hd0;clear hd0;cases lo<;>cases pb<;>cases more<;>(go_wp2;go_meet;first|exact⟨rfl,rfl⟩|exact⟨rfl,by rw[pz.out];rfl⟩)
  case rest=>
  obtain⟨rfl,rfl⟩:=hcut;have dw:=za3 (cs:=[.int .i64 6,.int .i64 0,.slice none 0 0,.int .i64 (S.item x0).number,.string ⟨#[]⟩,.string ⟨#[]⟩,.bool lo,.slice (some ⟨g,0,none⟩) (ps.length+1) cap1]) hLsH.out 6 (.bool (lo||pb||(more&&decide (0<gp))));have fq:=zan hHdH.out ⟨w.heap.size+2,6,none⟩ (by simp) (.bool (lo||pb||(more&&decide (0<gp))));have dh:=zan zy.out ⟨w.heap.size+2,6,none⟩ (by simp) (.bool (lo||pb||(more&&decide (0<gp))));have gq:=zan hNBH.out ⟨w.heap.size+2,6,none⟩ (by show N≠w.heap.size+2;omega) (.bool (lo||pb||(more&&decide (0<gp))));have kg:Below w.heap.size w (wc.setCell ⟨w.heap.size+2,6,none⟩ (.bool (lo||pb||(more&&decide (0<gp))))):=Below.setCell (hmid.out.2.2.2.2.2.1.trans (qb.out.mono (by omega))) (by simp) _;have jy:∀x,w.heap.size+3<=x->x<wc.heap.size->(wc.setCell ⟨w.heap.size+2,6,none⟩ (.bool (lo||pb||(more&&decide (0<gp))))).heap[x]?=wc.heap[x]?:=λx h1 h2=>Below.heap_setCell _ _ _ _ (by show x≠w.heap.size+2;omega);have qj:(wc.setCell ⟨w.heap.size+2,6,none⟩ (.bool (lo||pb||(more&&decide (0<gp))))).heap.size=wc.heap.size:=by simp[World.setCell]
  generalize hw6:wc.setCell ⟨w.heap.size+2,6,none⟩ (.bool (lo||pb||(more&&decide (0<gp))))=w6 at *;have jg:=hid jy;have jd:=hid qj;have jk:=hid kg;have lq:=hid dw;have xq:=hid fq;have lg:=hid dh;have hNB6H:=hid gq;clear l4 lf jy qj kg hw6;cases hmv:more
  ·rw[hmv] at bg dw;have hfin:=hid (zyw (kv:=.slice ka kn kc) (ln:=(⟨some ⟨b,o+k,none⟩,os.length,cap-k⟩:Ext)) hr.out jh.out hOH.out qp.out wm.out pq.out bg.out);have y0:=za0 dw 0 _ rfl;have y1:=za0 dw 1 _ rfl;have y2:=za0 dw 2 _ rfl;have y3:=za0 dw 3 _ rfl;have y4:=za0 dw 4 _ rfl;have y5:=za0 dw 5 _ rfl;have y6:=za0 dw 6 _ rfl;have y7:=za0 dw 7 _ rfl;have r0:=za0 dh 0 _ rfl;have r1:=za0 dh 1 _ rfl;have r2:=za0 dh 2 _ rfl;have r3:=za0 dh 3 _ rfl;have r4:=za0 dh 4 _ rfl;have r5:=za0 dh 5 _ rfl;have r6:=za0 dh 6 _ rfl;have r7:=za0 dh 7 _ rfl;have rf:=za7 dh;clear dw fq dh gq hmv;go_wp2;have hz:=zzq (u0:=.int .i64 0) (u1:=.int .i64 0) (u2:=.slice none 0 0) (u3:=.int .i64 0) (u4:=.string ⟨#[]⟩) (u5:=.string ⟨#[]⟩) (u6:=.bool false) (u7:=.slice none 0 0) lg.out (.int .i64 6) (.int .i64 0) (.slice none 0 0) (.int .i64 (S.item x0).number) (.string ⟨#[]⟩) (.string ⟨#[]⟩) (.bool (lo||pb)) (.slice (some ⟨g,0,none⟩) (ps.length+1) cap1);have z0:=za0 hz 0 _ rfl;have z1:=za0 hz 1 _ rfl;have z2:=za0 hz 2 _ rfl;have z3:=za0 hz 3 _ rfl;have z4:=za0 hz 4 _ rfl;have z5:=za0 hz 5 _ rfl;have z6:=za0 hz 6 _ rfl;have z7:=za0 hz 7 _ rfl;have hlast:=zqv (W:=(((((((w6.setCell ⟨w.heap.size+1,0,none⟩ (.int .i64 6)).setCell ⟨w.heap.size+1,1,none⟩ (.int .i64 0)).setCell ⟨w.heap.size+1,2,none⟩ (.slice none 0 0)).setCell ⟨w.heap.size+1,3,none⟩ (.int .i64 (S.item x0).number)).setCell ⟨w.heap.size+1,4,none⟩ (.string ⟨#[]⟩)).setCell ⟨w.heap.size+1,5,none⟩ (.string ⟨#[]⟩)).setCell ⟨w.heap.size+1,6,none⟩ (.bool (lo||pb))).setCell ⟨w.heap.size+1,7,none⟩ (.slice (some ⟨g,0,none⟩) (ps.length+1) cap1)) (ps:=ps++[(S.Blk.at_ (k:Int) 7 0 [] [] false rr.1,Value.slice ka kn kc,(⟨some ⟨b,o+k,none⟩,os.length,cap-k⟩:Ext))]) (g:=g) (cap1:=cap1) qb.out (λx h1 h2=>(ziz _ _ _ _ _ _ _ _ x (by omega)).trans (jg.out x h1 h2)) ((zl6 _ _ _ _ _ _ _ _).trans jd.out) (by rw[zgy,Qa];exact hmid.out.2.2.2.2.1) hmid.out.2.2.2.1;refine bodyPost_ret (v:=.tuple #[.agg #[.int .i64 6,.int .i64 0,.slice none 0 0,.int .i64 (S.item x0).number,.string ⟨#[]⟩,.string ⟨#[]⟩,.bool (lo||pb),.slice (some ⟨g,0,none⟩) (ps.length+1) cap1],.int .i64 ((k:Int)+(os.length:Int))]) (by simp[results,results122,go_sem,z0,z1,z2,z3,z4,z5,z6,z7]) rfl ⟨.slice (some ⟨g,0,none⟩) (ps.length+1) cap1,?_,?_,?_⟩
   ·rw[jw.out,hfin.out,qy.out];rfl
   ·rw[jw.out,hfin.out];have:=zmc (A:=λx=>w.heap.size<=x/\x<_) hlast.1 (λg' hg'=>⟨by have:=hlast.1.lt g' hg';omega,(hlast.1.lt g' hg').2⟩) (λi p hp=>(hlast.2 i p hp).move (λx hx=>⟨by omega,hx.2.1⟩) (λ_ _=>rfl));rw[Qa] at this;exact this
   ·repeat (refine Below.setCell ?_ (by simp) _)
    exact jk.out
  ·rw[hmv] at bg hmk lq;obtain⟨s',hs',hn1,hn2,hn3,zl⟩:=zx8 (kv:=.slice ka kn kc) (ln:=(⟨some ⟨b,o+k,none⟩,os.length,cap-k⟩:Ext)) hr.out jh.out hOH.out qp.out wm.out pq.out bg.out;have hmk':mk=S.item s'.data.toList:=(hmk.out rfl).trans hn1;rw[qy.out] at zl;have n0:=za0 gq 0 _ rfl;have n1:=za0 gq 1 _ rfl;have n2:=za0 gq 2 _ rfl;have n3:=za0 gq 3 _ rfl;have h0':=za0 fq 0 _ rfl;have h1':=za0 fq 1 _ rfl;have h2':=za0 fq 2 _ rfl;have h3':=za0 fq 3 _ rfl;have hf':=za7 fq;have zh:=hid hs';have zn:=hid hn2;have zm:=hid hn3;have zk:=hid zl;have tq:=hid hmk';have hne1:¬N=w.heap.size:=by omega
   clear dw fq dh gq hmv hs' hn1 hn2 hn3 zl hmk';have ny:Hid (∀v0 v1 v2 v3,_):=hid (λv0 v1 v2 v3=>zqv (W:=(((w6.setCell ⟨w.heap.size,0,none⟩ v0).setCell ⟨w.heap.size,1,none⟩ v1).setCell ⟨w.heap.size,2,none⟩ v2).setCell ⟨w.heap.size,3,none⟩ v3) (ps:=ps++[(S.Blk.at_ (k:Int) 7 0 [] [] false rr.1,Value.slice ka kn kc,(⟨some ⟨b,o+k,none⟩,os.length,cap-k⟩:Ext))]) (g:=g) (cap1:=cap1) qb.out (λx h1 h2=>(zka _ _ _ _ x (by omega)).trans (jg.out x h1 h2)) ((zqn _ _ _ _).trans jd.out) (by rw[zgy,Qa];exact hmid.out.2.2.2.2.1) hmid.out.2.2.2.1);go_wp2;go_roundw
   case rel=>
    have hlen':(ps++[(S.Blk.at_ (k:Int) 7 0 [] [] false rr.1,Value.slice ka kn kc,(⟨some ⟨b,o+k,none⟩,os.length,cap-k⟩:Ext))]).length=ps.length+1:=(by simp);refine⟨k+os.length+gp,f-1,s',ps++[(S.Blk.at_ (k:Int) 7 0 [] [] false rr.1,Value.slice ka kn kc,(⟨some ⟨b,o+k,none⟩,os.length,cap-k⟩:Ext))],some ⟨g,0,none⟩,cap1,lo||pb||decide (0<gp),by go_num,?_⟩;have hl:=ny.out (.int .u8 (mk.kind.toNat:Int)) (.int .i64 mk.number) (.int .i64 (mk.zaa:Nat)) (.bool mk.empty);refine⟨zh.out,zn.out,zm.out,zk.out,by have:=hr.out.fuel;omega,?_,?_,?_,hl.1,hl.2,?_,by rw[hlen'];omega,?_⟩
    ·rw[<-tq.out];exact zzs (u0:=.int .u8 _) (u1:=.int .i64 _) (u2:=.int .i64 _) (u3:=.bool _) xq.out _ _ _ _
    ·rw[zka _ _ _ _ _ (by omega)];exact lg.out
    ·rw[zka _ _ _ _ _ (by omega),hlen',lq.out,Bool.true_and];rfl
    ·repeat (refine Below.setCell ?_ (by simp) _)
     exact jk.out
    ·rw[zqn,jd.out];omega
   case measure=>simp[intOf];omega
theorem zpw (d:Nat)(hR:zpq d):zx7 d:=by
 intro b o cap s0 ts w hcap hbw hrow bg hd hok0;exact zoc d hR b o cap (s0::ts) s0 w rfl hcap hbw hrow bg hd hok0
theorem z5m (l:List UInt8):((S.nl l).map (λx=>x.length+1)).sum=l.length+1:=by
 induction l with
 | nil=>rfl
 | cons b l ih=>
  simp only[S.nl];split
  ·simp[ih];omega
  ·cases hn:S.nl l with
   | nil=>have:=S.zlt l;rw[hn] at this;simp at this
   | cons p r=>rw[hn] at ih;simp at ih ⊢;omega
theorem zyp (ss:List ByteArray):tot ss=((dat ss).map (λx=>x.length+1)).sum:=by
 unfold tot dat;rw[List.map_map];have:(λs:ByteArray=>s.size+1)=((λx:List UInt8=>x.length+1) ∘ λs:ByteArray=>s.data.toList):=by
  funext s;show s.size+1=s.data.toList.length+1;rw[S.lda]
 rw[this]
theorem zlp (s:ByteArray)(w:World)(hpos:0<s.size)(hs:s.size<=999998)(henv:Env w):Calls prog 65 #[.string s] w λe w'=>∃os,e=.returned (.slice (some ⟨w.heap.size,0,none⟩) os.length os.length)/\RowS w' w.heap.size 0 os/\Hid (dat os=S.lines s.data.toList)/\w.heap.size<w'.heap.size/\Below w.heap.size w w':=by
 obtain⟨_,⟨mx,hmx⟩,_⟩:=henv;have hne:=S.zb6 s hpos;have hne':=S.zbo s hpos;have bg:s.data.toList≠[]:=by rw[<-Lib.toList_data];exact hne'
 obtain⟨t,ht⟩:∃t:List UInt8,t=Lib.trimSuffix s.data.toList [10]:=⟨_,rfl⟩;have htl:t.length<=s.size:=by rw[ht,<-S.lda];exact Lib.trimSuffix_le _ _
 have hcB:Lib.countB ⟨t.toArray⟩ ⟨#[10]⟩=t.count 10:=by
  show Lib.count (ByteArray.mk t.toArray).data.toList [10]=_;rw[S.zjv,Lib.count_one]
 have hsp:dat (Lib.splitB ⟨#[10]⟩ 0 (t.count 10) ⟨t.toArray⟩)=S.nl t:=by
  show List.map (λs:ByteArray=>s.data.toList) _=_;rw[Lib.splitB_data,S.zjv];exact S.zyx t
 have hlen:(Lib.splitB ⟨#[10]⟩ 0 (t.count 10) ⟨t.toArray⟩).length=t.count 10+1:=by
  rw[<-zai,hsp,S.zlt]
 have htot:tot (Lib.splitB ⟨#[10]⟩ 0 (t.count 10) ⟨t.toArray⟩)<=1000000:=by rw[zyp,hsp,z5m];omega
 have hSP:Hid (Calls prog 86 #[.string ⟨t.toArray⟩,.string ⟨#[10]⟩] w λe w'=>
   e=.returned (.slice (some ⟨w.heap.size,0,none⟩) (t.count 10+1) (t.count 10+1))/\w'=w.alloc (.cells ((Lib.splitB ⟨#[10]⟩ 0 (t.count 10) ⟨t.toArray⟩).map Value.string).toArray 9)):=hid (by
  have:=Tryz.strings_Split ⟨t.toArray⟩ ⟨#[10]⟩ mx w (by rw[S.zhb];omega) hmx (by decide);rw[hcB] at this;exact this)
 have dw:Hid (Calls prog 87 #[.string s,.string ⟨#[10]⟩] w λe w'=>e=.returned (.string ⟨t.toArray⟩)/\w=w'):=hid (by
  have:=Tryz.strings_TrimSuffix s ⟨#[10]⟩ w (by omega);rw[ht];exact this.mono (λe w' ⟨h1,h2⟩=>⟨h1,h2.symm⟩))
 have hfin:Hid (dat (Lib.splitB ⟨#[10]⟩ 0 (t.count 10) ⟨t.toArray⟩)=S.lines s.data.toList):=hid (by rw[hsp];unfold S.lines;rw[if_neg bg,ht]);obtain⟨os,hos⟩:=Qzz (Lib.splitB ⟨#[10]⟩ 0 (t.count 10) ⟨t.toArray⟩);rw[<-hos] at hSP hfin hlen htot;have dh:=hid hlen;clear hcB hsp bg ht hos hmx hlen;go_enter func65,ntmps65;go_wp2_with fail
 refine dw.out.mono ?_;rintro e w'⟨rfl,rfl⟩;go_wp2_with fail
 refine hSP.out.mono ?_;rintro e w'⟨rfl,rfl⟩;go_wp2;go_ret;refine⟨os,by rw[dh.out];rfl,⟨?_,htot⟩,hfin,by simp,(Below.refl _ _).alloc (Qc _) _⟩;intro i x hi;rw[Nat.zero_add];exact za0 (za1 _ _) i _ (by simp[hi])
theorem zkq (s:ByteArray)(w:World)(h0:s.size=0):Calls prog 65 #[.string s] w λe w'=>e=.returned (.slice none 0 0)/\w=w':=by
 have he:=S.zg6 s h0;clear h0;go_enter func65,ntmps65;go_wp2;go_ret;exact⟨rfl,rfl⟩
theorem ztl (w:World):Calls prog 64 #[.slice none 0 0] w λe w'=>e=.returned (.tuple #[.slice none 0 0,.bool false])/\w=w':=by
 have bg:Hid (Calls prog 84 #[.slice none 0 0] w λe w'=>e=.returned (.int .i64 0)/\w=w'):=hid ((zn4 w).mono (λe w' ⟨h1,h2⟩=>⟨h1,h2.symm⟩));go_enter func64,ntmps64;go_wp2_with (go_at_call 84;refine bg.out.mono ?_;rintro e w'⟨rfl,rfl⟩)
 refine wp_loop_rounds 1 ?_;rw[rounds_succ];go_wp2;go_ret2;exact⟨rfl,rfl⟩
theorem z0j (l:List UInt8):bytes (S.nl l)<=l.length:=by
 induction l with
 | nil=>simp[S.nl,bytes]
 | cons b l ih=>
  simp only[S.nl];split
  ·simp only[bytes,Qs,List.sum_cons,Qi,Qd] at *;omega
  ·cases hn:S.nl l with
   | nil=>simp[bytes]
   | cons p r=>rw[hn] at ih;simp only[bytes,Qs,List.sum_cons,Qd] at *;omega
theorem zue (hAll:∀d,zpq d)(s:ByteArray)(w:World)(hs:s.size<=999998)(henv:Env w):Calls prog 45 #[.string s] w λe w'=>∃v,e=.returned v/\Rep w' (λx=>w.heap.size<=x/\x<w'.heap.size) v (S.za2 (s.size+1) (S.lines s.data.toList)).1/\Below w.heap.size w w':=by
 have dh:=hid hAll;clear hAll;by_cases h0:s.size=0
 ·have hl:Hid (S.za2 (s.size+1) (S.lines s.data.toList)=([],false)):=hid (by
   rw[S.zeo s h0];rfl)
  have fq:=hid (zkq s w h0);have gq:=hid (ztl w);clear h0;go_enter func45,ntmps45;go_wp2_with fail
  refine fq.out.mono ?_;rintro e w'⟨rfl,rfl⟩;go_wp2_with fail
  refine gq.out.mono ?_;rintro e w'⟨rfl,rfl⟩;go_wp2;go_ret;exact⟨_,rfl,by rw[hl.out];exact .nil,Below.refl _ _⟩
 ·have hSS:=hid (zlp s w (by omega) hs henv);go_enter func45,ntmps45;go_wp2_with fail
  refine hSS.out.mono ?_;rintro e w1⟨os,rfl,hro,hdo,hlt,hb1⟩;have hRR:=hid (dh.out (s.size+1) w.heap.size 0 os.length os w1 (Qc _) hlt hro (henv.below hb1) (by
   rw[hdo.out];unfold S.lines;split
   ·simp[bytes]
   ·have h1:=z0j (Lib.trimSuffix s.data.toList [10]);have h2:=Lib.trimSuffix_le s.data.toList [10];rw[S.lda] at h2;omega))
  rw[hdo.out] at hRR;have dx:=hid hb1;have hs1:=hb1.size;clear hb1 hro;go_wp2_with fail
  refine hRR.out.mono ?_;rintro e w2⟨v,rfl,hrep,hb2⟩;obtain⟨ka,kn,kc,rfl⟩:=hrep.form;have bg:=hid hrep;have dw:=hid hb2;clear hrep hb2;go_wp2;go_ret;exact⟨_,rfl,bg.out.move (λx hx=>⟨by omega,hx.2⟩) (λ_ _=>rfl),dx.out.trans (dw.out.mono hs1)⟩
end Go.Proofs.YtlojgpkajkedeaaGreatDoor
