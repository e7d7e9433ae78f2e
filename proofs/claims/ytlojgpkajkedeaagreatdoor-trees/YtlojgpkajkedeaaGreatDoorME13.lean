import Derived.Test.YtlojgpkajkedeaaGreatDoorME11
namespace Go.Proofs.YtlojgpkajkedeaaGreatDoor
open Go.RowKit
def zk7 (ct:ByteArray) (k n:Nat):Pt:=.mk 8 [] ((ct.data.toList.drop k).take n) [] n (S.zby ct.data.toList k n) (S.zbe ct.data.toList k n)
set_option maxRecDepth 100000 in
set_option maxHeartbeats 4000000 in
theorem zue (C:Nat) (ct:ByteArray) (f k n:Nat) (ms:List Mem) (os:List Opn) (sa:Option Addr) (sc:Nat) (A:Nat→Prop) (w:World) (h:Cut C ct f k ms os sa sc A w) (hk:k<ct.size) (hc:ct[k].toNat<128) (hn:S.same (ct.data.toList.drop k)=n) (hkn:k+n≤ct.size) :
  Calls Tryz.prog 157 #[.pointer (some ⟨C,0,none⟩)] w fun e w'=>∃ m1 m2,e = .returned (.tuple #[])∧w.heap.size≤m1∧w.heap.size≤m2∧Cut C ct (k+n) (k+n) ((ms++zcp ct f k m1)++[⟨m2,zk7 ct k n,none,none⟩]) os sa sc A w'∧Fr (C::blks ms) w w':=by
 have hcl:=h.lt
 have hcc:=h.cells
 have hsm:=h.small
 have q0:w.cell? ⟨C,0,none⟩=some (.string ct):=za0 hcc 0 _ rfl
 have q2:w.cell? ⟨C,2,none⟩=some (.int .i64 (k:Nat)):=za0 hcc 2 _ rfl
 have hR:=hid (fun (wx:World) (hx:wx.heap[C]?=w.heap[C]?)=>zef C ct f k _ _ _ wx (hx.trans hcc) (Nat.le_of_lt hk))
 have hz:(ct.extract k ct.size).size=ct.size-k:=by simp
 have hcs:Hid (∀ wx,Calls Tryz.prog 153 #[.string (ct.extract k ct.size)] wx fun e w'=>e = .returned (.int .i64 (n:Nat))∧wx=w'):=hid (fun wx=>by
  have:=zew (ct.extract k ct.size) wx (by rw[hz];simp[maxLen];omega) (by omega) (by rw[ByteArray.getElem_extract];simpa using hc)
  rw[zbh,hn] at this;exact this)
 have hnl:Hid (∀ b,w.heap.size≤b→b ∉ C::blks ms):=hid (fun b hb hm=>by
  rcases List.mem_cons.1 hm with hm|hm
  ·omega
  ·have:=h.ch.mlt _ hm;omega)
 have hrun:=hid (fun wx=>zwq ct k n wx hsm hk hkn)
 have hH:=hid h
 have hL:=hid (fun (wx:World) (hb:Below w.heap.size w wx)=>zlk C ct f k n ms os sa sc A (zk7 ct k n) none none wx (h.below hb) hkn (by simp[zk7,Pt.text];omega) (by simp[zk7,Pt.rs];omega) .nil)
 have hpv:zhc (zk7 ct k n) none none = .agg #[.int .i64 8,.string ⟨#[]⟩,.string ((ct.extract k ct.size).extract 0 n),.pointer none,.pointer none,.int .i64 (n:Nat),.bool (S.zby ct.data.toList k n),.bool (S.zbe ct.data.toList k n)]:=by
  have:S.B ((ct.data.toList.drop k).take n)=(ct.extract k ct.size).extract 0 n:=by rw[← S.zbq ((ct.extract k ct.size).extract 0 n),zcz,zbh];simp
  simp only[zhc,zk7,Pt.kind,Pt.info,Pt.text,Pt.rs,Pt.ro,Pt.rc,this];rfl
 rw[hpv] at hL
 clear h hcc hpv
 have hI0:(0:Int)≤(n:Int):=by omega
 have hI1:(n:Int)≤((ct.extract k ct.size).size:Int):=by omega
 have hI2:(n:Int)≤((ct.size-k:Nat):Int):=by omega
 have hI3:n≤ct.size-k:=by omega
 generalize S.zby ct.data.toList k n=ro at hrun hL
 generalize S.zbe ct.data.toList k n=rc at hrun hL
 go_enter Tryz.func157,Tryz.ntmps157
 go_wp2_with fail
 refine (hR.out w rfl).mono ?_
 rintro e w' ⟨rfl,rfl⟩
 go_wp2_with fail
 refine (hcs.out _).mono ?_
 rintro e w' ⟨rfl,rfl⟩
 go_wp2_with fail
 have qd0:w.drew.cell? ⟨C,0,none⟩=some (.string ct):=q0
 have qd2:w.drew.cell? ⟨C,2,none⟩=some (.int .i64 (k:Nat)):=q2
 have hn0:¬ w.heap.size=C:=by omega
 have hn0':¬ C=w.heap.size:=by omega
 go_region_held3 (fun w'=>w'.cell? ⟨C,0,none⟩=some (.string ct)∧w'.cell? ⟨C,2,none⟩=some (.int .i64 (k:Nat)))
  ((refine ⟨?_,?_⟩ <;> (first|assumption|go_keep)))
  ((go_at_call 202;refine (hrun.out _).mono ?_;rintro e w1 ⟨rfl,hb1⟩;obtain ⟨hc1,hf1⟩:=zmj hb1;have j0:w1.cell? ⟨C,0,none⟩=some (.string ct):=(hc1 _ _ (by first|exact hcl|(simp;omega))).trans (by first|exact qd0|(have:=qd0;go_keep));have j2:w1.cell? ⟨C,2,none⟩=some (.int .i64 (k:Nat)):=(hc1 _ _ (by first|exact hcl|(simp;omega))).trans (by first|exact qd2|(have:=qd2;go_keep));have hs1:=hb1.size;have hs2:w.heap.size≤w1.heap.size:=Nat.le_trans (by first|exact Nat.le_refl _|simp) hs1;have hn1:¬ w1.heap.size=C:=(Nat.ne_of_gt (Nat.lt_of_lt_of_le hcl hs2))))
 ·obtain ⟨W,hW⟩:∃ W,W=w1.alloc (.cells #[.int .i64 (n:Nat),.bool ro,.bool rc] 175):=⟨_,rfl⟩
  have hbW:Below w.heap.size w W:=by rw[hW];exact (((Below.refl _ w).drew.drew).trans hb1).alloc hs2 _
  obtain ⟨b,hb⟩:∃ b,b=w1.heap.size:=⟨_,rfl⟩
  have hbx:W.heap[b]?=some (.cells #[.int .i64 (n:Nat),.bool ro,.bool rc] 175 (0,0)):=by rw[hW,hb];exact za1 _ _
  rw[← hW,← hb]
  have hbz:w.heap.size≤b:=by omega
  clear hc1 hf1 hb1 j0 j2 hs1 hs2 hn1 hW hb
  have k0:W.cell? ⟨b,0,none⟩=some (.int .i64 (n:Nat)):=za0 hbx 0 _ rfl
  have k1:W.cell? ⟨b,1,none⟩=some (.bool ro):=za0 hbx 1 _ rfl
  have k2:W.cell? ⟨b,2,none⟩=some (.bool rc):=za0 hbx 2 _ rfl
  have hbl:b<W.heap.size:=(Array.getElem?_eq_some_iff.1 hbx).1
  have hRW:=hid (hR.out W.drew (hbW.block C hcl))
  have hLW:=hid (hL.out W.drew.drew hbW.drew.drew)
  clear hbx qd0 qd2
  go_wp2_with fail
  go_region_held3 (fun w'=>w'.cell? ⟨b,0,none⟩=some (.int .i64 (n:Nat))∧w'.cell? ⟨b,1,none⟩=some (.bool ro)∧w'.cell? ⟨b,2,none⟩=some (.bool rc))
   ((refine ⟨?_,?_,?_⟩ <;> (first|assumption|with_reducible exact k0|with_reducible exact k1|with_reducible exact k2)))
   (first|(go_at_call 154;refine hRW.out.mono ?_;rintro e w' ⟨rfl,rfl⟩;have j0:W.drew.drew.cell? ⟨b,0,none⟩=some (.int .i64 (n:Nat)):=k0;have j1:W.drew.drew.cell? ⟨b,1,none⟩=some (.bool ro):=k1;have j2:W.drew.drew.cell? ⟨b,2,none⟩=some (.bool rc):=k2)|(go_at_call 162;refine hLW.out.mono ?_;rintro e w2 ⟨m1,m2,rfl,hm1,hm2,hC2,hf2⟩;have hbb:=fun (o:Nat)=>zff (hf2.block b hbl (hnl.out b hbz)) o;have j0:=(hbb 0).trans k0;have j1:=(hbb 1).trans k1;have j2:=(hbb 2).trans k2))
  go_end0
  have hzz:=hbW.size
  exact ⟨m1,m2,rfl,Nat.le_trans hzz hm1,Nat.le_trans hzz hm2,hC2,((Fr.zhq hbW).drew.drew).trans hf2 (fun x hx=>.inl hx)⟩
 ·obtain ⟨W,hW⟩:∃ W,W=(((w1.setCell ⟨w.heap.size,0,none⟩ (.int .i64 (n:Nat))).setCell ⟨w.heap.size,1,none⟩ (.bool ro)).setCell ⟨w.heap.size,2,none⟩ (.bool rc)):=⟨_,rfl⟩
  have hbW:Below w.heap.size w W:=by rw[hW];exact ((((((Below.refl _ w).alloc (Nat.le_refl _) _).drew.drew).trans (hb1.mono (by simp))).setCell (Nat.le_refl _) _).setCell (Nat.le_refl _) _).setCell (Nat.le_refl _) _
  obtain ⟨b,hb⟩:∃ b,b=w.heap.size:=⟨_,rfl⟩
  have hbx:W.heap[b]?=some (.cells #[.int .i64 (n:Nat),.bool ro,.bool rc] 175 (0,0)):=by
   rw[hW,hb]
   have h0:w1.heap[w.heap.size]?=some (.cells #[.int .i64 0,.bool false,.bool false] 175 (0,0)):=by
    rw[hb1.block _ (by simp)];exact za1 _ _
   exact za3 (za3 (za3 h0 0 _) 1 _) 2 _
  rw[← hW,← hb]
  have hbz:w.heap.size≤b:=by omega
  clear hc1 hf1 hb1 j0 j2 hs1 hs2 hn1 hW hb
  have k0:W.cell? ⟨b,0,none⟩=some (.int .i64 (n:Nat)):=za0 hbx 0 _ rfl
  have k1:W.cell? ⟨b,1,none⟩=some (.bool ro):=za0 hbx 1 _ rfl
  have k2:W.cell? ⟨b,2,none⟩=some (.bool rc):=za0 hbx 2 _ rfl
  have hbl:b<W.heap.size:=(Array.getElem?_eq_some_iff.1 hbx).1
  have hRW:=hid (hR.out W.drew (hbW.block C hcl))
  have hLW:=hid (hL.out W.drew.drew hbW.drew.drew)
  clear hbx qd0 qd2
  go_wp2_with fail
  go_region_held3 (fun w'=>w'.cell? ⟨b,0,none⟩=some (.int .i64 (n:Nat))∧w'.cell? ⟨b,1,none⟩=some (.bool ro)∧w'.cell? ⟨b,2,none⟩=some (.bool rc))
   ((refine ⟨?_,?_,?_⟩ <;> (first|assumption|with_reducible exact k0|with_reducible exact k1|with_reducible exact k2)))
   (first|(go_at_call 154;refine hRW.out.mono ?_;rintro e w' ⟨rfl,rfl⟩;have j0:W.drew.drew.cell? ⟨b,0,none⟩=some (.int .i64 (n:Nat)):=k0;have j1:W.drew.drew.cell? ⟨b,1,none⟩=some (.bool ro):=k1;have j2:W.drew.drew.cell? ⟨b,2,none⟩=some (.bool rc):=k2)|(go_at_call 162;refine hLW.out.mono ?_;rintro e w2 ⟨m1,m2,rfl,hm1,hm2,hC2,hf2⟩;have hbb:=fun (o:Nat)=>zff (hf2.block b hbl (hnl.out b hbz)) o;have j0:=(hbb 0).trans k0;have j1:=(hbb 1).trans k1;have j2:=(hbb 2).trans k2))
  go_end0
  have hzz:=hbW.size
  exact ⟨m1,m2,rfl,Nat.le_trans hzz hm1,Nat.le_trans hzz hm2,hC2,((Fr.zhq hbW).drew.drew).trans hf2 (fun x hx=>.inl hx)⟩
theorem S.zm9 (l:List UInt8):(S.zc9 l).length≤l.length:=by
 have h:=S.zju (l.length+1) l
 have hr:(Lib.replaceAll l [10] [32]).length=l.length:=S.zhi l
 unfold S.zc9
 simp only
 split
 ·rw[List.length_take,List.length_drop];omega
 ·omega
def zgc (ct:ByteArray) (k n e:Nat):Pt:=.mk 11 [] (S.zc9 ((ct.data.toList.drop (k+n)).take (e-n))) [] 0 false false
set_option maxRecDepth 100000 in
set_option maxHeartbeats 4000000 in
theorem zpg (C:Nat) (ct:ByteArray) (f k n:Nat) (x3 x4 x5:Value) (w:World) (h:w.heap[C]?=some (.cells [.string ct,.int .i64 (f:Nat),.int .i64 (k:Nat),x3,x4,x5].toArray 168 (0,0))) (hsm:ct.size≤1000000) (hk:k<ct.size) (h1:1≤n) (hn:k+n≤ct.size) (hv:S.ze6 (ct.data.toList.drop k) n=none) :
  Calls Tryz.prog 155 #[.pointer (some ⟨C,0,none⟩),.int .i64 (n:Nat)] w fun e w'=>e = .returned (.bool false)∧Below w.heap.size w w':=by
 have hR:=hid (zef C ct f k x3 x4 x5 w h (Nat.le_of_lt hk))
 have hz:(ct.extract k ct.size).size=ct.size-k:=by simp
 have hSp:=hid (fun wx=>zlt (ct.extract k ct.size) n wx (by omega) (by omega) h1 none (by rw[zbh];exact hv))
 clear h
 go_enter Tryz.func155,Tryz.ntmps155
 go_wp2_with fail
 refine hR.out.mono ?_
 rintro e w' ⟨rfl,rfl⟩
 go_wp2_with fail
 refine (hSp.out _).mono ?_
 rintro e w' ⟨rfl,rfl⟩
 simp only[Option.map_none,Option.getD_none,Option.isSome_none]
 go_wp2
 go_ret
 exact ⟨rfl,(Below.refl _ _).drew⟩
set_option maxRecDepth 100000 in
set_option maxHeartbeats 4000000 in
theorem zq0 (C:Nat) (ct:ByteArray) (f k n v:Nat) (ms:List Mem) (os:List Opn) (sa:Option Addr) (sc:Nat) (A:Nat→Prop) (w:World) (h:Cut C ct f k ms os sa sc A w) (hk:k<ct.size) (h1:1≤n) (hn:k+n≤ct.size) (hv:S.ze6 (ct.data.toList.drop k) n=some v) (hnv:n≤v) (hvl:k+v+n≤ct.size) (henv:Env w) :
  Calls Tryz.prog 155 #[.pointer (some ⟨C,0,none⟩),.int .i64 (n:Nat)] w fun e w'=>∃ m1 m2,e = .returned (.bool true)∧w.heap.size≤m1∧w.heap.size≤m2∧Cut C ct (k+(v+n)) (k+(v+n)) ((ms++zcp ct f k m1)++[⟨m2,zgc ct k n v,none,none⟩]) os sa sc A w'∧Fr (C::blks ms) w w':=by
 have hcl:=h.lt
 have hcc:=h.cells
 have hsm:=h.small
 have hR:=hid (zef C ct f k _ _ _ w hcc (Nat.le_of_lt hk))
 have hz:(ct.extract k ct.size).size=ct.size-k:=by simp
 have hSp:=hid (fun wx=>zlt (ct.extract k ct.size) n wx (by omega) (by omega) h1 (some v) (by rw[zbh];exact hv))
 obtain ⟨bt,hbt⟩:∃ bt,(ct.extract k ct.size).extract n v=bt:=⟨_,rfl⟩
 have hbtl:bt.data.toList=(ct.data.toList.drop (k+n)).take (v-n):=by rw[← hbt,zcz,zbh,List.drop_drop]
 have hbts:bt.size=v-n:=by rw[← hbt];simp;omega
 have hSp':Hid (∀ wx,Calls Tryz.prog 198 #[.string (ct.extract k ct.size),.int .i64 (n:Nat)] wx fun e w'=>e = .returned (.tuple #[.string bt,.bool true])∧wx=w'):=hid (fun wx=>by have:=hSp.out wx;simp only[Option.map_some,Option.getD_some,Option.isSome_some,hbt] at this;exact this)
 have hSt:=hid (fun (wx:World) (hx:Below w.heap.size w wx)=>zpj bt wx (by omega) (henv.below hx))
 have hL:=hid (fun (wx:World) (hb:Below w.heap.size w wx) (r:ByteArray) (hr:r.data.toList=S.zc9 bt.data.toList)=>zlk C ct f k (v+n) ms os sa sc A (zgc ct k n v) none none wx (h.below hb) (by omega) (by simp only[zgc,Pt.text];have:=S.zm9 ((ct.data.toList.drop (k+n)).take (v-n));rw[List.length_take] at this;omega) (by simp[zgc,Pt.rs]) .nil)
 have hpv:∀ r:ByteArray,r.data.toList=S.zc9 bt.data.toList→zhc (zgc ct k n v) none none = .agg #[.int .i64 11,.string ⟨#[]⟩,.string r,.pointer none,.pointer none,.int .i64 0,.bool false,.bool false]:=fun r hr=>by
  have:S.B (S.zc9 ((ct.data.toList.drop (k+n)).take (v-n)))=r:=by rw[← hbtl,← hr,S.zbq]
  simp only[zhc,zgc,Pt.kind,Pt.info,Pt.text,Pt.rs,Pt.ro,Pt.rc,this];rfl
 have hL':Hid (∀ (wx:World) (hb:Below w.heap.size w wx) (r:ByteArray) (hr:r.data.toList=S.zc9 bt.data.toList),_):=hid (fun wx hb r hr=>by have:=hL.out wx hb r hr;rw[hpv r hr] at this;exact this)
 clear h hcc hL hpv hSp hbtl hbt
 have hbI:(bt.size:Int)=(v:Int)-(n:Int):=by omega
 go_enter Tryz.func155,Tryz.ntmps155
 go_wp2_with fail
 refine hR.out.mono ?_
 rintro e w' ⟨rfl,rfl⟩
 go_wp2_with fail
 refine (hSp'.out _).mono ?_
 rintro e w' ⟨rfl,rfl⟩
 go_wp2_with fail
 refine (hSt.out _ (Below.refl _ _).drew).mono ?_
 rintro e w1 ⟨r,rfl,hr,hb1⟩
 have hL1:=hid (hL'.out w1 ((Below.refl _ w).drew.trans hb1) r hr.out)
 rw[show ((v+n:Nat):Int)=((v-n:Nat):Int)+2*(n:Int) by omega] at hL1
 have hbH:=hid hb1
 clear hb1
 go_wp2_with fail
 refine hL1.out.mono ?_
 rintro e w2 ⟨m1,m2,rfl,hm1,hm2,hC2,hf2⟩
 have hall:=hid (And.intro hC2 hf2)
 clear hC2 hf2
 go_wp2
 go_ret
 have hzz:w.heap.size≤w1.heap.size:=hbH.out.size
 exact ⟨m1,m2,rfl,Nat.le_trans hzz hm1,Nat.le_trans hzz hm2,hall.out.1,(Fr.zhq ((Below.refl _ w).drew.trans hbH.out)).trans hall.out.2 (fun x hx=>.inl hx)⟩
def zj0 (t:List UInt8):Pt:=.mk 12 t [] [zbj t] 0 false false
set_option maxRecDepth 100000 in
set_option maxHeartbeats 4000000 in
theorem z0o (V:Nat) (p:Pt) (kf kl:Option Addr) (w:World) (i0 i5:Int) (s1 s2:ByteArray) (a3 a4:Option Addr) (b6 b7:Bool) (hpv:zhc p kf kl = .agg #[.int .i64 i0,.string s1,.string s2,.pointer a3,.pointer a4,.int .i64 i5,.bool b6,.bool b7]) (T:Nat) (h:w.heap[V]?=some (.cells #[.int .i64 i0,.string s1,.string s2,.pointer a3,.pointer a4,.int .i64 i5,.bool b6,.bool b7] T (0,0))) :
  Calls Tryz.prog 201 #[.slice (some ⟨V,0,none⟩) 1 1] w fun e w'=>∃ m,e = .returned (.agg #[.pointer (some ⟨m,0,none⟩),.pointer (some ⟨m,0,none⟩)])∧w.heap.size≤m∧m<w'.heap.size∧Hid (w'.heap[m]?=some (.cells (zd2 ⟨m,p,kf,kl⟩ none none).toArray 179 (0,0)))∧Below w.heap.size w w':=by
 have hVl:V<w.heap.size:=(Array.getElem?_eq_some_iff.1 h).1
 obtain ⟨w2,hw2⟩:∃ w2,w2=(w.alloc (.cells #[.pointer none,.pointer none] 135)).alloc (.cells #[.pointer none,.pointer none] 135):=⟨_,rfl⟩
 have hs1:∀ ob,(w.alloc ob).heap.size=w.heap.size+1:=by intro ob;simp
 have hs2:w2.heap.size=w.heap.size+2:=by rw[hw2];simp
 have hb2:Below w.heap.size w w2:=by rw[hw2];exact ((Below.refl _ _).alloc (Nat.le_refl _) _).alloc (by simp) _
 have hV2:w2.heap[V]?=some (.cells #[.int .i64 i0,.string s1,.string s2,.pointer a3,.pointer a4,.int .i64 i5,.bool b6,.bool b7] T (0,0)):=(hb2.block V hVl).trans h
 have hC2:Ch w2 (w.heap.size+1) 0 135 [.pointer none,.pointer none] []:=⟨trivial,⟨by rw[hw2,← hs1];exact za1 _ _,by simp⟩,List.nodup_nil,by simp[blks]⟩
 have hA:=hid (fun (w1:World) (h1:Ch w1 (w.heap.size+1) 0 135 [.pointer none,.pointer none] [])=>zjf (w.heap.size+1) 0 135 [.pointer none,.pointer none] [] p kf kl w1 h1)
 rw[hpv] at hA
 have q0:w2.cell? ⟨V,0,none⟩=some (.int .i64 i0):=za0 hV2 0 _ rfl
 have q1:w2.cell? ⟨V,1,none⟩=some (.string s1):=za0 hV2 1 _ rfl
 have q2:w2.cell? ⟨V,2,none⟩=some (.string s2):=za0 hV2 2 _ rfl
 have q3:w2.cell? ⟨V,3,none⟩=some (.pointer a3):=za0 hV2 3 _ rfl
 have q4:w2.cell? ⟨V,4,none⟩=some (.pointer a4):=za0 hV2 4 _ rfl
 have q5:w2.cell? ⟨V,5,none⟩=some (.int .i64 i5):=za0 hV2 5 _ rfl
 have q6:w2.cell? ⟨V,6,none⟩=some (.bool b6):=za0 hV2 6 _ rfl
 have q7:w2.cell? ⟨V,7,none⟩=some (.bool b7):=za0 hV2 7 _ rfl
 have hCA:=hid (hA.out (w2.alloc (.cells #[.int .i64 i0,.string s1,.string s2,.pointer a3,.pointer a4,.int .i64 i5,.bool b6,.bool b7] 177)) (hC2.move (fun x hx=>Below.heap_alloc _ _ _ (by simp[blks] at hx;omega))))
 have hbH:=hid hb2
 have hX2:Hid (w2.heap[w.heap.size]?=some (.cells #[.pointer none,.pointer none] 135 (0,0))):=hid (by rw[hw2,Below.heap_alloc _ _ _ (by rw[hs1];omega)];exact za1 _ _)
 have hs2H:=hid hs2
 clear hC2 hV2 h hpv hA hb2 hs2
 go_enter Tryz.func201,Tryz.ntmps201
 go_wp2_with fail
 rw[← hw2]
 clear hw2 hs1
 go_loopg [8] 1 (fun k s8 wr=>(k=1∧s8 = .int .i64 0∧wr=w2)∨(k=0∧s8 = .int .i64 1∧∃ m,w.heap.size<m∧Ch wr (w.heap.size+1) 0 135 [.pointer none,.pointer none] [⟨m,p,kf,kl⟩]∧Below w.heap.size w wr∧wr.heap[w.heap.size]?=some (.cells #[.pointer none,.pointer none] 135 (0,0))))
 case atStart=>exact .inl ⟨rfl,rfl,rfl⟩
 case round=>
  rcases hrel with ⟨rfl,rfl,rfl⟩|⟨rfl,rfl,m,hm,hC,hb,hX⟩
  ·go_wp2_with fail
   refine hCA.out.mono ?_
   rintro e w3 ⟨rfl,hC3,hf3,hs3⟩
   have hall:=hid (And.intro hC3 (And.intro hf3 hs3))
   clear hC3 hf3 hs3
   go_wp2
   go_roundg 0
   case rel=>
    refine .inr ⟨rfl,rfl,_,?_,hall.out.1,?_,?_⟩
    ·have:=hs2H.out;simp;omega
    ·have hfb:=hall.out.2.1.below (B:=w.heap.size) (by have:=hs2H.out;simp;omega) (fun x hx=>by simp[blks] at hx;omega)
     exact (hbH.out.alloc (by have:=hs2H.out;omega) _).trans hfb
    ·rw[hall.out.2.1.block _ (by have:=hs2H.out;simp;omega) (by simp[blks]),Below.heap_alloc _ _ _ (by have:=hs2H.out;omega)]
     exact hX2.out
   case measure=>simp
  ·have hall:=hid (And.intro hC hb)
   have hcc:=hC.hdr.1
   have k0:wr.cell? ⟨w.heap.size+1,0,none⟩=some (.pointer (some ⟨m,0,none⟩)):=za0 hcc 0 _ rfl
   have k1:wr.cell? ⟨w.heap.size+1,1,none⟩=some (.pointer (some ⟨m,0,none⟩)):=za0 hcc 1 _ rfl
   have x0:wr.cell? ⟨w.heap.size,0,none⟩=some (.pointer none):=za0 hX 0 _ rfl
   have x1:wr.cell? ⟨w.heap.size,1,none⟩=some (.pointer none):=za0 hX 1 _ rfl
   have xf:=za7 hX
   have hXH:=hid hX
   clear hC hb hcc hX
   go_wp2
   have hms:m≠w.heap.size:=by omega
   have hml:m<wr.heap.size:=hall.out.1.mlt m (by simp[blks])
   refine bodyPost_ret (v:=.agg #[.pointer (some ⟨m,0,none⟩),.pointer (some ⟨m,0,none⟩)]) (by simp[results,Tryz.results201,go_sem,x0,x1]) rfl ⟨m,rfl,Nat.le_of_lt hm,by simp;exact hml,hid ?_,(hall.out.2.setCell (Nat.le_refl _) _).setCell (Nat.le_refl _) _⟩
   have h0:=hall.out.1.seg.1
   have hfr:Fr [w.heap.size] wr ((wr.setCell ⟨w.heap.size,0,none⟩ (.pointer (some ⟨m,0,none⟩))).setCell ⟨w.heap.size,1,none⟩ (.pointer (some ⟨m,0,none⟩))):=(((Fr.refl _ wr).setCell _ (.inl (by simp)) _).setCell _ (.inl (by simp)) _)
   rw[hfr.block m hml (by simp[hms])]
   exact h0
set_option maxRecDepth 100000 in
set_option maxHeartbeats 4000000 in
theorem zl5 (C:Nat) (ct:ByteArray) (f k n:Nat) (ms:List Mem) (os:List Opn) (sa:Option Addr) (sc:Nat) (A:Nat→Prop) (w:World) (h:Cut C ct f k ms os sa sc A w) (hk:k<ct.size) (hok:S.zd9 (ct.data.toList.drop k)=true) (hn:(S.zcf (ct.data.toList.drop k)).length=n) (hkn:k+(n+2)≤ct.size) :
  Calls Tryz.prog 156 #[.pointer (some ⟨C,0,none⟩)] w fun e w'=>∃ m1 m2 m3,e = .returned (.bool true)∧w.heap.size≤m1∧w.heap.size≤m2∧w.heap.size≤m3∧Cut C ct (k+(n+2)) (k+(n+2)) ((ms++zcp ct f k m1)++[⟨m2,zj0 (S.zcf (ct.data.toList.drop k)),some ⟨m3,0,none⟩,some ⟨m3,0,none⟩⟩]) os sa sc (fun x=>A x∨x=m3) w'∧Fr (C::blks ms) w w':=by
 have hcl:=h.lt
 have hcc:=h.cells
 have hsm:=h.small
 have hR:=hid (zef C ct f k _ _ _ w hcc (Nat.le_of_lt hk))
 have hz:(ct.extract k ct.size).size=ct.size-k:=by simp
 obtain ⟨t,ht⟩:∃ t,S.zcf (ct.data.toList.drop k)=t:=⟨_,rfl⟩
 rw[ht] at hn ⊢
 have hAn:Hid (∀ wx,Calls Tryz.prog 200 #[.string (ct.extract k ct.size)] wx fun e w'=>∃ r:ByteArray,e = .returned (.tuple #[.string r,.bool true])∧Hid (r.data.toList=t)∧Below wx.heap.size wx w'):=hid (fun wx=>by
  have:=zn7 (ct.extract k ct.size) wx (by omega) (by omega)
  rw[zbh,hok,ht] at this
  exact this.mono (fun e w' ⟨r,h1,h2,h3⟩=>⟨r,h1,hid (h2.out rfl),h3⟩))
 have hL:=hid (fun (wx:World) (m3:Nat) (h1:w.heap.size≤m3) (h2:m3<wx.heap.size) (hx:wx.heap[m3]?=some (.cells (zd2 ⟨m3,zbj t,none,none⟩ none none).toArray 179 (0,0))) (hb:Below w.heap.size w wx)=>
  zlk C ct f k (n+2) ms os sa sc (fun x=>A x∨x=m3) (zj0 t) (some ⟨m3,0,none⟩) (some ⟨m3,0,none⟩) wx (h.more hb (fun x hx=>.inl hx) (fun x hx=>by rcases hx with hx|hx;exact .inl hx;exact .inr ⟨by omega,by omega⟩)) hkn (by simp[zj0,Pt.text]) (by simp[zj0,Pt.rs])
   (KRep.cons ⟨m3,zbj t,none,none⟩ none none [] (.inr rfl) hx .nil .nil))
 clear h hcc ht
 go_enter Tryz.func156,Tryz.ntmps156
 go_wp2_with fail
 refine hR.out.mono ?_
 rintro e w' ⟨rfl,rfl⟩
 go_wp2_with fail
 refine (hAn.out _).mono ?_
 rintro e w1 ⟨r,rfl,hr,hb1⟩
 have hrs:r.size=n:=by rw[← S.length_data,hr.out];exact hn
 have hrb:S.B t=r:=by rw[← hr.out,S.zbq]
 have hOf:=hid (fun (wx:World) (V:Nat) (hV:wx.heap[V]?=some (.cells #[.int .i64 8,.string ⟨#[]⟩,.string r,.pointer none,.pointer none,.int .i64 0,.bool false,.bool false] 177 (0,0)))=>z0o V (zbj t) none none wx 8 0 ⟨#[]⟩ r none none false false (by rw[← hrb];rfl) _ hV)
 obtain ⟨W,hW⟩:∃ W,W=((w1.alloc (.cells #[.int .i64 8,.string ⟨#[]⟩,.string r,.pointer none,.pointer none,.int .i64 0,.bool false,.bool false] 177)).alloc (.cells #[.int .i64 8,.string ⟨#[]⟩,.string r,.pointer none,.pointer none,.int .i64 0,.bool false,.bool false] 177)):=⟨_,rfl⟩
 have hs1:∀ ob,(w1.alloc ob).heap.size=w1.heap.size+1:=by intro ob;simp
 have hWb:Below w.heap.size w W:=by rw[hW];exact ((((Below.refl _ w).drew).trans hb1).alloc hb1.size _).alloc (by have:=hb1.size;simp;exact Nat.le_succ_of_le this) _
 have hOW:=hid (hOf.out W (w1.heap.size+1) (by rw[hW,← hs1];exact za1 _ _))
 have hbH:=hid hWb
 clear hWb hb1 hOf hs1
 go_wp2_with fail
 rw[← hW]
 clear hW
 refine hOW.out.mono ?_
 rintro e w3 ⟨m3,rfl,hm3,hm3l,hx3,hb3⟩
 have hzW:w.heap.size≤W.heap.size:=hbH.out.size
 have hL3:=hid (hL.out w3 m3 (by omega) hm3l hx3.out (hbH.out.trans (hb3.mono hzW)))
 rw[show zhc (zj0 t) (some ⟨m3,0,none⟩) (some ⟨m3,0,none⟩) = .agg #[.int .i64 12,.string r,.string ⟨#[]⟩,.pointer (some ⟨m3,0,none⟩),.pointer (some ⟨m3,0,none⟩),.int .i64 0,.bool false,.bool false] by rw[← hrb];rfl,show ((n+2:Nat):Int)=(n:Int)+2 by omega] at hL3
 have hb3H:=hid (hbH.out.trans (hb3.mono hzW))
 clear hb3 hx3
 go_wp2_with fail
 refine hL3.out.mono ?_
 rintro e w4 ⟨m1,m2,rfl,hm1,hm2,hC4,hf4⟩
 have hall:=hid (And.intro hC4 hf4)
 clear hC4 hf4
 go_wp2
 go_ret
 have hzz:=hb3H.out.size
 exact ⟨m1,m2,m3,rfl,Nat.le_trans hzz hm1,Nat.le_trans hzz hm2,Nat.le_trans hzW hm3,hall.out.1,(Fr.zhq hb3H.out).trans hall.out.2 (fun x hx=>.inl hx)⟩
set_option maxRecDepth 100000 in
set_option maxHeartbeats 4000000 in
theorem zmb (C:Nat) (ct:ByteArray) (f k:Nat) (x3 x4 x5:Value) (w:World) (h:w.heap[C]?=some (.cells [.string ct,.int .i64 (f:Nat),.int .i64 (k:Nat),x3,x4,x5].toArray 168 (0,0))) (hsm:ct.size≤1000000) (hk:k<ct.size) (hok:S.zd9 (ct.data.toList.drop k)=false) :
  Calls Tryz.prog 156 #[.pointer (some ⟨C,0,none⟩)] w fun e w'=>e = .returned (.bool false)∧Below w.heap.size w w':=by
 have hR:=hid (zef C ct f k _ _ _ w h (Nat.le_of_lt hk))
 have hz:(ct.extract k ct.size).size=ct.size-k:=by simp
 have hAn:Hid (∀ wx,Calls Tryz.prog 200 #[.string (ct.extract k ct.size)] wx fun e w'=>∃ r:ByteArray,e = .returned (.tuple #[.string r,.bool false])∧Below wx.heap.size wx w'):=hid (fun wx=>by
  have:=zn7 (ct.extract k ct.size) wx (by omega) (by omega)
  rw[zbh,hok] at this
  exact this.mono (fun e w' ⟨r,h1,h2,h3⟩=>⟨r,h1,h3⟩))
 clear h
 go_enter Tryz.func156,Tryz.ntmps156
 go_wp2_with fail
 refine hR.out.mono ?_
 rintro e w' ⟨rfl,rfl⟩
 go_wp2_with fail
 refine (hAn.out _).mono ?_
 rintro e w1 ⟨r,rfl,hb1⟩
 have hbH:=hid hb1
 clear hb1
 go_wp2
 go_ret
 exact ⟨rfl,(Below.refl _ w).drew.trans hbH.out⟩
end Go.Proofs.YtlojgpkajkedeaaGreatDoor
