import Derived.Test.YtlojgpkajkedeaaGreatDoorNW3
import Derived.Deep.RegionHeld3
import Derived.Deep.DeepCutAuto
set_option maxHeartbeats 16000000
set_option maxRecDepth 100000
namespace Go.Proofs.YtlojgpkajkedeaaGreatDoor
open Go.RowKit Go.Proofs.Tryz
theorem zwv (s:ByteArray)(w:World)(hs:s.size<=maxLen)(hn:S.za5 (S.shallow s.data.toList)=0\/S.zb7 (S.shallow s.data.toList) (S.za5 (S.shallow s.data.toList))=false):Calls prog 121 #[.string s] w λe w'=>e=.returned (.tuple #[.agg #[.int .u8 0,.int .i64 0,.int .i64 0,.bool false],.bool false])/\Below w.heap.size w w':=by
 go_enter func121,ntmps121;go_wp2_with fail
 refine(zb4 _ _ hs).mono ?_;rintro e w'⟨r,rfl,hr,hle,rfl⟩;rw[<-hr.out] at hn;have hml:S.za5 r.data.toList<=r.size:=by rw[<-S.lda];exact S.zg5 _
 go_wp2_with fail
 refine(zhv _ _ (Qj hle hs)).mono ?_;rintro e w'⟨rfl,rfl⟩;by_cases h0:S.za5 r.data.toList=0
 ·have h0':(((S.za5 r.data.toList:Nat):Int) == 0)=true:=by rw[beq_iff_eq];omega
  clear h0 hn;go_wp2;exact bodyPost_ret (v:=.tuple #[.agg #[.int .u8 0,.int .i64 0,.int .i64 0,.bool false],.bool false]) (by simp[results,results121,go_sem]) rfl ⟨rfl,(Below.refl _ _).alloc (Qc _) _⟩
 ·have h0':(((S.za5 r.data.toList:Nat):Int) == 0)=false:=by rw[Qe];omega
  have hE:S.zb7 r.data.toList (S.za5 r.data.toList)=false:=by rcases hn with h|h;exact absurd h h0;exact h
  clear h0 hn;go_wp2_with (go_at_call 171;refine(zfg r _ _ hml).mono ?_;rintro e w'⟨rfl,rfl⟩)
  exact bodyPost_ret (v:=.tuple #[.agg #[.int .u8 0,.int .i64 0,.int .i64 0,.bool false],.bool false]) (by simp[results,results121,go_sem]) rfl ⟨rfl,(Below.refl _ _).alloc (Qc _) _⟩
theorem zne {W w1:World}(hb:Below W.heap.size W w1):(∀b o,b<W.heap.size->w1.cell? ⟨b,o,none⟩=W.cell? ⟨b,o,none⟩)/\(∀b o,b<W.heap.size->w1.frozen? ⟨b,o,none⟩=W.frozen? ⟨b,o,none⟩):=
 ⟨λb o h=>hb.cell (p:=⟨b,o,none⟩) h,λb o h=>hb.frozen (p:=⟨b,o,none⟩) h⟩
theorem Env.alloc {w:World}(h:Env w)(o:Obj):Env (w.alloc o):=h.below ((Below.refl _ _).alloc (Qc _) _)
theorem zll (r:ByteArray)(m:Nat)(w:World)(hm:m+1<=r.size)(h6:m<=6)(hd:∀x∈r.data.toList.take m,S.zg9 x=true)(henv:Env w):Calls prog 179 #[.string (r.extract 0 (m+1))] w λe w'=>e=.returned (.int .i64 (S.number (r.data.toList.take m)))/\Below w.heap.size w w':=by
 have hsz:(r.extract 0 (m+1)).size=m+1:=by rw[ByteArray.size_extract];omega
 have htk:(r.extract 0 (m+1)).data.toList.take ((r.extract 0 (m+1)).size-1)=r.data.toList.take m:=by
  rw[hsz,S.zjk,List.take_take];congr 1;omega
 have:=zkt (r.extract 0 (m+1)) w (by omega) (by omega) (by rw[htk];exact hd) henv;rw[htk] at this;exact this
theorem zvo (r:ByteArray)(k:Nat)(w:World)(hs:r.size<=maxLen):Calls prog 111 #[.string (r.extract k r.size)] w λe w'=>e=.returned (.bool (S.blank (r.data.toList.drop k)))/\w'=w:=by
 have:=zbc (r.extract k r.size) w (by rw[ByteArray.size_extract];exact Qj (by omega) hs);rw[S.zbf] at this;exact this
theorem ztp (r:ByteArray)(k:Nat)(w:World)(hs:r.size<=maxLen):Calls prog 112 #[.string (r.extract k r.size)] w λe w'=>e=.returned (.int .i64 (S.indent (r.data.toList.drop k):Nat))/\w'=w:=by
 have:=zba (r.extract k r.size) w (by rw[ByteArray.size_extract];exact Qj (by omega) hs);rw[S.zbf] at this;exact this
theorem za0 {w:World}{b T:Nat}{cs:Array Value}(h:w.heap[b]?=some (.cells cs T (0,0)))(i:Nat)(v:Value)(hi:cs[i]?=some v):w.cell? ⟨b,i,none⟩=some v:=by
 simp[World.cell?,h,hi]
theorem za7 {w:World}{b T:Nat}{cs:Array Value}(h:w.heap[b]?=some (.cells cs T (0,0)))(i:Nat):w.frozen? ⟨b,i,none⟩=false:=by
 simp[World.frozen?,h]
theorem za3 {w:World}{b T:Nat}{cs:List Value}(h:w.heap[b]?=some (.cells cs.toArray T (0,0)))(i:Nat)(u:Value):(w.setCell ⟨b,i,none⟩ u).heap[b]?=some (.cells (cs.set i u).toArray T (0,0)):=by
 simp[World.setCell,Array.getElem?_modify,h]
theorem zan {w:World}{b:Nat}{o:Option Obj}(h:w.heap[b]?=o)(a:Addr)(ha:b≠a.block)(u:Value):(w.setCell a u).heap[b]?=o:=by
 rw[Below.heap_setCell _ _ _ _ ha];exact h
theorem za1 (w:World)(o:Obj):(w.alloc o).heap[w.heap.size]?=some o:=by
 show (w.heap.push o)[w.heap.size]?=_;simp
def ztc (w:World)(k:Int)(num:Int)(bl:Bool)(s7:Value)(wx:World):Prop:=
 ∃N:Nat,s7=.pointer (some ⟨N,0,none⟩)/\w.heap.size<N/\wx.heap[N]?=some (.cells #[.int .u8 k,.int .i64 num,.int .i64 0,.bool bl] 186 (0,0))/\wx.heap[w.heap.size]?=some (.cells #[.int .u8 0,.int .i64 0,.int .i64 0,.bool false] 186 (0,0))/\Below w.heap.size w wx
theorem zzv {w w1:World}{k num:Int}{bl:Bool}(hb:Below (w.alloc (.cells #[.int .u8 0,.int .i64 0,.int .i64 0,.bool false] 186)).drew.heap.size (w.alloc (.cells #[.int .u8 0,.int .i64 0,.int .i64 0,.bool false] 186)).drew w1):ztc w k num bl (.pointer (some ⟨w1.heap.size,0,none⟩)) (w1.alloc (.cells #[.int .u8 k,.int .i64 num,.int .i64 0,.bool bl] 186)):=by
 have hsz:=hb.size;have h0:w.heap.size<(w.alloc (.cells #[.int .u8 0,.int .i64 0,.int .i64 0,.bool false] 186)).drew.heap.size:=by simp
 have hlt:w.heap.size<w1.heap.size:=Qh h0 hsz;refine⟨w1.heap.size,rfl,hlt,za1 _ _,?_,?_⟩
 ·rw[Below.heap_alloc _ _ _ hlt,hb.block _ h0];exact za1 _ _
 ·refine Below.alloc (Below.trans ?_ (hb.mono (Nat.le_of_lt h0))) (Nat.le_of_lt hlt) _;exact((Below.refl _ _).alloc (Qc _) _).drew
theorem z1a {w w1:World}{k num:Int}{bl:Bool}(hb:Below ((w.alloc (.cells #[.int .u8 0,.int .i64 0,.int .i64 0,.bool false] 186)).alloc (.cells #[.int .u8 0,.int .i64 0,.int .i64 0,.bool false] 186)).drew.heap.size ((w.alloc (.cells #[.int .u8 0,.int .i64 0,.int .i64 0,.bool false] 186)).alloc (.cells #[.int .u8 0,.int .i64 0,.int .i64 0,.bool false] 186)).drew w1):ztc w k num bl (.pointer (some ⟨w.heap.size+1,0,none⟩)) ((((w1.setCell ⟨w.heap.size+1,0,none⟩ (.int .u8 k)).setCell ⟨w.heap.size+1,1,none⟩ (.int .i64 num)).setCell ⟨w.heap.size+1,2,none⟩ (.int .i64 0)).setCell ⟨w.heap.size+1,3,none⟩ (.bool bl)):=by
 have hsz:=hb.size;have hS:((w.alloc (.cells #[.int .u8 0,.int .i64 0,.int .i64 0,.bool false] 186)).alloc (.cells #[.int .u8 0,.int .i64 0,.int .i64 0,.bool false] 186)).drew.heap.size=w.heap.size+2:=by simp
 have h1:w1.heap[w.heap.size+1]?=some (.cells [.int .u8 0,.int .i64 0,.int .i64 0,.bool false].toArray 186 (0,0)):=by
  rw[hb.block _ (by omega)];have hsz2:(w.alloc (.cells #[.int .u8 0,.int .i64 0,.int .i64 0,.bool false] 186)).heap.size=w.heap.size+1:=by simp
  rw[<-hsz2];exact za1 _ _
 have h2:w1.heap[w.heap.size]?=some (.cells #[.int .u8 0,.int .i64 0,.int .i64 0,.bool false] 186 (0,0)):=by
  rw[hb.block _ (by omega)];show ((w.alloc _).alloc _).heap[w.heap.size]?=_;rw[Below.heap_alloc _ _ _ (by simp)];exact za1 _ _
 refine⟨w.heap.size+1,rfl,by omega,?_,?_,?_⟩
 ·exact za3 (za3 (za3 (za3 h1 0 _) 1 _) 2 _) 3 _
 ·exact zan (zan (zan (zan h2 _ (by simp) _) _ (by simp) _) _ (by simp) _) _ (by simp) _
 ·refine Below.setCell (Below.setCell (Below.setCell (Below.setCell (Below.trans ?_ (hb.mono (by omega))) (by simp) _) (by simp) _) (by simp) _) (by simp) _;exact(((Below.refl _ _).alloc (Qc _) _).alloc (by simp) _).drew
theorem zvd (s:ByteArray)(w:World)(hs0:s.size<=140737488355328)(hn:¬(S.za5 (S.shallow s.data.toList)=0\/S.zb7 (S.shallow s.data.toList) (S.za5 (S.shallow s.data.toList))=false))(henv:Env w):Calls prog 121 #[.string s] w λe w'=>e=.returned (.tuple #[.agg #[.int .u8 ((S.item s.data.toList).kind.toNat:Int),.int .i64 (S.item s.data.toList).number,.int .i64 ((S.item s.data.toList).zaa:Nat),.bool (S.item s.data.toList).empty],.bool true])/\Below w.heap.size w w':=by
 have hs:s.size<=maxLen:=by unfold maxLen;omega
 have hs':=hs;unfold maxLen at hs;have hil:S.indent s.data.toList<=s.size:=by have:=S.zby s.data.toList;rw[S.lda] at this;exact this
 go_enter func121,ntmps121;go_wp2_with fail
 refine(zb4 _ _ hs').mono ?_;rintro e w'⟨r,rfl,hr,hle,rfl⟩;have hI:=hid (S.zjo _ hn);rw[<-hr.out] at hn hI;have hml:S.za5 r.data.toList<=r.size:=by rw[<-S.lda];exact S.zg5 _
 go_wp2_with fail
 refine(zhv _ _ (Qj hle hs')).mono ?_;rintro e w'⟨rfl,rfl⟩;obtain⟨hn0,hE⟩:=not_or.1 hn;obtain⟨n,hnn⟩:=Qyy (S.za5 r.data.toList);obtain⟨m,hmm⟩:∃m,n=m+1:=⟨n-1,by omega⟩;have jd:=S.zo9 _ hn0;rw[hnn] at hml hE hI ⊢;have jh:m<=6:=by omega
 have hdg:Hid (∀x∈r.data.toList.take m,S.zg9 x=true):=hid (by
  rw[show m=S.digs r.data.toList by omega];exact S.zuj _)
 have hE':S.zb7 r.data.toList n=true:=by simpa using hE
 have h0':((n:Int) == 0)=false:=by rw[Qe];omega
 have hmr:m<r.size:=by omega
 have hrs:=Qj hle hs';obtain⟨num,bg⟩:∃x,S.number (r.data.toList.take m)=x:=⟨_,rfl⟩;obtain⟨bl,hbl⟩:∃x,S.blank (r.data.toList.drop n)=x:=⟨_,rfl⟩;have jg:∀(wx:World),Env wx->Calls prog 179 #[.string (r.extract 0 n)] wx λe w'=>e=.returned (.int .i64 num)/\Below wx.heap.size wx w':=λwx he=>by
  have:=zll r m wx (by omega) jh hdg.out he;rw[bg,<-hmm] at this;exact this
 have hIB:∀(wx:World),Calls prog 111 #[.string (r.extract n r.size)] wx λe w'=>e=.returned (.bool bl)/\w'=wx:=λwx=>by
  have:=zvo r n wx hrs;rw[hbl] at this;exact this
 have jk:=hid jg;have jl:=hid hIB;have dx:=hid bg;have gq:=hid hbl;have fq:=hid hmm;have hwr:IntKind.i64.wrap ((n:Int)-1)=(m:Int):=by rw[IntKind.wrap_i64];omega
 have hi0:(0:Int)<=(m:Int):=by omega
 have hi1:(m:Int)<(r.size:Int):=by omega
 have hi2:(n:Int)<=(r.size:Int):=by omega
 have hi3:(0:Int)<=(n:Int):=by omega
 have hnz:n<=7:=by omega
 have hn1:1<=n:=by omega
 clear hnn hn hn0 hE jd jg hIB bg hbl hmm;go_wp2_with fail
 refine(zfg r n _ hml).mono ?_;rintro e w'⟨rfl,rfl⟩;go_wp2;go_cut [7] (λs7 wx=>ztc w (r[m].toNat:Int) num bl s7 wx)
 case first=>
  go_region_held3 (λw'=>True) (trivial) (first|(go_at_call 179;refine(jk.out _ (by first|exact henv.alloc _|exact(henv.alloc _).drew|exact(henv.alloc _).alloc _|exact((henv.alloc _).alloc _).drew)).mono ?_;rintro e w1⟨rfl,hb⟩;obtain⟨hc,hf⟩:=zne hb)|(go_at_call 111;refine(jl.out _).mono ?_;rintro e w''⟨rfl,rfl⟩))
  all_goals (go_wp2_with fail;go_meet;first|exact zzv hb|exact z1a hb)
 case rest=>
  obtain⟨N,rfl,hN,dw,hc0,hbw⟩:=hcut;have c0:=za0 dw 0 _ rfl;have c1:=za0 dw 1 _ rfl;have c2:=za0 dw 2 _ rfl;have c3:=za0 dw 3 _ rfl;have f0:=za7 dw;have d0:=za0 hc0 0 _ rfl;have d1:=za0 hc0 1 _ rfl;have d2:=za0 hc0 2 _ rfl;have d3:=za0 hc0 3 _ rfl;have g0:=za7 hc0;have hne:N≠w.heap.size:=by omega
  have hne':w.heap.size≠N:=by omega
  clear dw hc0;have hkd:Hid ((S.item s.data.toList).kind=r[m]):=hid (by
   rw[hI.out];show r.data.toList.getD (n-1) 0=r[m];rw[fq.out,Nat.add_sub_cancel,List.getD_eq_getElem?_getD,S.zad r m hmr];rfl)
  have hnm:Hid ((S.item s.data.toList).number=num):=hid (by rw[hI.out,<-dx.out,fq.out,Nat.add_sub_cancel]);have hem:Hid ((S.item s.data.toList).empty=bl):=hid (by rw[hI.out,<-gq.out]);have gy:Hid ((S.item s.data.toList).zaa=S.indent s.data.toList+n+if bl=true\/5<=S.indent (r.data.toList.drop n) then 1 else S.indent (r.data.toList.drop n)):=hid (by rw[hI.out,<-gq.out])
  have hib:S.indent (r.data.toList.drop n)<=r.size:=by
   have:=S.zby (r.data.toList.drop n);rw[Qf,S.lda] at this;omega
  clear hwr hi0 hi1 hi2 hi3;go_wp2_with fail
  refine(ztp r n _ hrs).mono ?_;rintro e w''⟨rfl,rfl⟩;obtain⟨sp,hsp⟩:∃x,S.indent (r.data.toList.drop n)=x:=⟨_,rfl⟩;rw[hsp] at hib gy ⊢;clear hsp;have fin:∀mg:Nat,(S.item s.data.toList).zaa=mg->Ending.returned (.tuple #[.agg #[.int .u8 (r[m].toNat:Int),.int .i64 num,.int .i64 (mg:Int),.bool bl],.bool true])=.returned (.tuple #[.agg #[.int .u8 ((S.item s.data.toList).kind.toNat:Int),.int .i64 (S.item s.data.toList).number,.int .i64 ((S.item s.data.toList).zaa:Nat),.bool (S.item s.data.toList).empty],.bool true]):=by
   intro mg h;rw[h,hkd.out,hnm.out,hem.out]
  have dh:=hid fin;clear fin hkd hnm hem;cases bl
  ·by_cases h5:5<=sp
   ·have hm2:Hid ((S.item s.data.toList).zaa=S.indent s.data.toList+n+1):=hid (by rw[gy.out,if_pos (.inr h5)]);go_wp2_with (go_at_call 112;refine(zba s _ hs').mono ?_;rintro e w''⟨rfl,rfl⟩)
    refine bodyPost_ret (v:=.tuple #[.agg #[.int .u8 (r[m].toNat:Int),.int .i64 num,.int .i64 ((S.indent s.data.toList:Int)+(n:Int)+1),.bool false],.bool true]) (by simp[results,results121,go_sem,d0,d1,d2,d3]) rfl ⟨?_,?_⟩
    ·have:=dh.out _ hm2.out;simpa using this
    ·repeat (refine Below.setCell ?_ (by simp<;>omega) _)
     exact hbw
   ·have hm2:Hid ((S.item s.data.toList).zaa=S.indent s.data.toList+n+sp):=hid (by rw[gy.out,if_neg (by simp;omega)]);go_wp2_with (go_at_call 112;refine(zba s _ hs').mono ?_;rintro e w''⟨rfl,rfl⟩)
    refine bodyPost_ret (v:=.tuple #[.agg #[.int .u8 (r[m].toNat:Int),.int .i64 num,.int .i64 ((S.indent s.data.toList:Int)+(n:Int)+(sp:Int)),.bool false],.bool true]) (by simp[results,results121,go_sem,d0,d1,d2,d3]) rfl ⟨?_,?_⟩
    ·have:=dh.out _ hm2.out;simpa using this
    ·repeat (refine Below.setCell ?_ (by simp<;>omega) _)
     exact hbw
  ·have hm2:Hid ((S.item s.data.toList).zaa=S.indent s.data.toList+n+1):=hid (by rw[gy.out,if_pos (.inl rfl)]);go_wp2_with (go_at_call 112;refine(zba s _ hs').mono ?_;rintro e w''⟨rfl,rfl⟩)
   refine bodyPost_ret (v:=.tuple #[.agg #[.int .u8 (r[m].toNat:Int),.int .i64 num,.int .i64 ((S.indent s.data.toList:Int)+(n:Int)+1),.bool true],.bool true]) (by simp[results,results121,go_sem,d0,d1,d2,d3]) rfl ⟨?_,?_⟩
   ·have:=dh.out _ hm2.out;simpa using this
   ·repeat (refine Below.setCell ?_ (by simp<;>omega) _)
    exact hbw
theorem zjy (s:ByteArray)(w:World)(hs:s.size<=140737488355328)(henv:Env w):Calls prog 121 #[.string s] w λe w'=>e=.returned (.tuple #[.agg #[.int .u8 ((S.item s.data.toList).kind.toNat:Int),.int .i64 (S.item s.data.toList).number,.int .i64 ((S.item s.data.toList).zaa:Nat),.bool (S.item s.data.toList).empty],.bool (S.item s.data.toList).ok])/\Below w.heap.size w w':=by
 by_cases h:S.za5 (S.shallow s.data.toList)=0\/S.zb7 (S.shallow s.data.toList) (S.za5 (S.shallow s.data.toList))=false
 ·refine(zwv s w (by unfold maxLen;omega) h).mono ?_;rintro e w'⟨rfl,hb⟩;rw[S.zlu _ h];exact⟨rfl,hb⟩
 ·refine(zvd s w hs h henv).mono ?_;rintro e w'⟨rfl,hb⟩;have:(S.item s.data.toList).ok=true:=by rw[S.zjo _ h]
  rw[this];exact⟨rfl,hb⟩
end Go.Proofs.YtlojgpkajkedeaaGreatDoor
