import Derived.Test.YtlojgpkajkedeaaGreatDoorNE11
set_option maxHeartbeats 16000000
set_option maxRecDepth 100000
namespace Go.Proofs.YtlojgpkajkedeaaGreatDoor
open Go.RowKit Go.Proofs.Tryz
def zku (ct:ByteArray)(k n:Nat):Pt:=.mk 8 [] ((ct.data.toList.drop k).take n) [] n (S.zc0 ct.data.toList k n) (S.zbg ct.data.toList k n)
theorem zw7 (C:Nat)(ct:ByteArray)(f k n:Nat)(ms:List Mem)(os:List Opn)(sa:Option Addr)(sc:Nat)(A:Nat->Prop)(w:World)(h:Cut C ct f k ms os sa sc A w)(hk:k<ct.size)(hc:ct[k].toNat<128)(hn:S.same (ct.data.toList.drop k)=n)(hkn:k+n<=ct.size):Calls prog 157 #[.pointer (some ⟨C,0,none⟩)] w λe w'=>∃m1 m2,e=.returned (.tuple #[])/\w.heap.size<=m1/\w.heap.size<=m2/\Cut C ct (k+n) (k+n) ((ms++zcu ct f k m1)++[⟨m2,zku ct k n,none,none⟩]) os sa sc A w'/\Fr (C::blks ms) w w':=by
 have hcl:=h.lt;have hcc:=h.cells;have hsm:=h.small;have q0:w.cell? ⟨C,0,none⟩=some (.string ct):=za0 hcc 0 _ rfl;have q2:w.cell? ⟨C,2,none⟩=some (.int .i64 (k:Nat)):=za0 hcc 2 _ rfl;have hR:=hid (λ(wx:World) (hx:wx.heap[C]?=w.heap[C]?)=>zeh C ct f k _ _ _ wx (hx.trans hcc) (Nat.le_of_lt hk));have hz:(ct.extract k ct.size).size=ct.size-k:=by simp
 have hcs:Hid (∀wx,Calls prog 153 #[.string (ct.extract k ct.size)] wx λe w'=>e=.returned (.int .i64 (n:Nat))/\wx=w'):=hid (λwx=>by
  have:=zex (ct.extract k ct.size) wx (by rw[hz];simp[maxLen];omega) (by omega) (by rw[ByteArray.getElem_extract];simpa using hc);rw[zbi,hn] at this;exact this)
 have hnl:Hid (∀b,w.heap.size<=b->b ∉ C::blks ms):=hid (λb hb hm=>by
  rcases List.mem_cons.1 hm with hm|hm
  ·omega
  ·have:=h.ch.mlt _ hm;omega)
 have hrun:=hid (λwx=>zyb ct k n wx hsm hk hkn);have hH:=hid h;have hL:=hid (λ(wx:World) (hb:Below w.heap.size w wx)=>zm2 C ct f k n ms os sa sc A (zku ct k n) none none wx (h.below hb) hkn (by simp[zku,Pt.text];omega) (by simp[zku,Pt.rs];omega) .nil);have hpv:zhq (zku ct k n) none none=.agg #[.int .i64 8,.string ⟨#[]⟩,.string ((ct.extract k ct.size).extract 0 n),.pointer none,.pointer none,.int .i64 (n:Nat),.bool (S.zc0 ct.data.toList k n),.bool (S.zbg ct.data.toList k n)]:=by
  have:S.B ((ct.data.toList.drop k).take n)=(ct.extract k ct.size).extract 0 n:=by rw[<-S.zbp ((ct.extract k ct.size).extract 0 n),zd4,zbi];simp
  simp only[zhq,zku,Pt.kind,Pt.info,Pt.text,Pt.rs,Pt.ro,Pt.rc,this];rfl
 rw[hpv] at hL;clear h hcc hpv;have hI0:(0:Int)<=(n:Int):=by omega
 have hI1:(n:Int)<=((ct.extract k ct.size).size:Int):=by omega
 have hI2:(n:Int)<=((ct.size-k:Nat):Int):=by omega
 have gq:n<=ct.size-k:=by omega
 generalize S.zc0 ct.data.toList k n=ro at hrun hL;generalize S.zbg ct.data.toList k n=rc at hrun hL;go_enter func157,ntmps157;go_wp2_with fail
 refine(hR.out w rfl).mono ?_;rintro e w'⟨rfl,rfl⟩;go_wp2_with fail
 refine(hcs.out _).mono ?_;rintro e w'⟨rfl,rfl⟩;go_wp2_with fail
 have dh:w.drew.cell? ⟨C,0,none⟩=some (.string ct):=q0;have bg:w.drew.cell? ⟨C,2,none⟩=some (.int .i64 (k:Nat)):=q2;have hn0:¬w.heap.size=C:=by omega
 have fq:¬C=w.heap.size:=by omega
 go_region_held3 (λw'=>w'.cell? ⟨C,0,none⟩=some (.string ct)/\w'.cell? ⟨C,2,none⟩=some (.int .i64 (k:Nat)))
  ((refine⟨?_,?_⟩<;>(first|assumption|go_keep)))
  ((go_at_call 202;refine(hrun.out _).mono ?_;rintro e w1⟨rfl,hb1⟩;obtain⟨hc1,hf1⟩:=zne hb1;have j0:w1.cell? ⟨C,0,none⟩=some (.string ct):=(hc1 _ _ (by first|exact hcl|(simp;omega))).trans (by first|exact dh|(have:=dh;go_keep));have j2:w1.cell? ⟨C,2,none⟩=some (.int .i64 (k:Nat)):=(hc1 _ _ (by first|exact hcl|(simp;omega))).trans (by first|exact bg|(have:=bg;go_keep));have hs1:=hb1.size;have hs2:w.heap.size<=w1.heap.size:=Qj (by first|exact Qc _|simp) hs1;have hn1:¬w1.heap.size=C:=(Nat.ne_of_gt (Qh hcl hs2))))
 ·obtain⟨W,hW⟩:=Qzz (w1.alloc (.cells #[.int .i64 (n:Nat),.bool ro,.bool rc] 175));have hbW:Below w.heap.size w W:=by rw[hW];exact(((Below.refl _ w).drew.drew).trans hb1).alloc hs2 _
  obtain⟨b,hb⟩:=Qzz (w1.heap.size);have hbx:W.heap[b]?=some (.cells #[.int .i64 (n:Nat),.bool ro,.bool rc] 175 (0,0)):=by rw[hW,hb];exact za1 _ _
  rw[<-hW,<-hb];have hbz:w.heap.size<=b:=by omega
  clear hc1 hf1 hb1 j0 j2 hs1 hs2 hn1 hW hb;have k0:W.cell? ⟨b,0,none⟩=some (.int .i64 (n:Nat)):=za0 hbx 0 _ rfl;have k1:W.cell? ⟨b,1,none⟩=some (.bool ro):=za0 hbx 1 _ rfl;have k2:W.cell? ⟨b,2,none⟩=some (.bool rc):=za0 hbx 2 _ rfl;have hbl:b<W.heap.size:=(Qq.1 hbx).1;have dw:=hid (hR.out W.drew (hbW.block C hcl));have dx:=hid (hL.out W.drew.drew hbW.drew.drew);clear hbx dh bg;go_wp2_with fail
  go_region_held3 (λw'=>w'.cell? ⟨b,0,none⟩=some (.int .i64 (n:Nat))/\w'.cell? ⟨b,1,none⟩=some (.bool ro)/\w'.cell? ⟨b,2,none⟩=some (.bool rc))
   ((refine⟨?_,?_,?_⟩<;>(first|assumption|with_reducible exact k0|with_reducible exact k1|with_reducible exact k2)))
   (first|(go_at_call 154;refine dw.out.mono ?_;rintro e w'⟨rfl,rfl⟩;have j0:W.drew.drew.cell? ⟨b,0,none⟩=some (.int .i64 (n:Nat)):=k0;have j1:W.drew.drew.cell? ⟨b,1,none⟩=some (.bool ro):=k1;have j2:W.drew.drew.cell? ⟨b,2,none⟩=some (.bool rc):=k2)|(go_at_call 162;refine dx.out.mono ?_;rintro e w2⟨m1,m2,rfl,hm1,hm2,hC2,hf2⟩;have hbb:=λ(o:Nat)=>zfw (hf2.block b hbl (hnl.out b hbz)) o;have j0:=(hbb 0).trans k0;have j1:=(hbb 1).trans k1;have j2:=(hbb 2).trans k2))
  go_end0;have hzz:=hbW.size;exact⟨m1,m2,rfl,Qj hzz hm1,Qj hzz hm2,hC2,((Fr.zii hbW).drew.drew).trans hf2 (λx hx=>.inl hx)⟩
 ·obtain⟨W,hW⟩:=Qzz ((((w1.setCell ⟨w.heap.size,0,none⟩ (.int .i64 (n:Nat))).setCell ⟨w.heap.size,1,none⟩ (.bool ro)).setCell ⟨w.heap.size,2,none⟩ (.bool rc)));have hbW:Below w.heap.size w W:=by rw[hW];exact((((((Below.refl _ w).alloc (Qc _) _).drew.drew).trans (hb1.mono (by simp))).setCell (Qc _) _).setCell (Qc _) _).setCell (Qc _) _
  obtain⟨b,hb⟩:=Qzz (w.heap.size);have hbx:W.heap[b]?=some (.cells #[.int .i64 (n:Nat),.bool ro,.bool rc] 175 (0,0)):=by
   rw[hW,hb];have h0:w1.heap[w.heap.size]?=some (.cells #[.int .i64 0,.bool false,.bool false] 175 (0,0)):=by
    rw[hb1.block _ (by simp)];exact za1 _ _
   exact za3 (za3 (za3 h0 0 _) 1 _) 2 _
  rw[<-hW,<-hb];have hbz:w.heap.size<=b:=by omega
  clear hc1 hf1 hb1 j0 j2 hs1 hs2 hn1 hW hb;have k0:W.cell? ⟨b,0,none⟩=some (.int .i64 (n:Nat)):=za0 hbx 0 _ rfl;have k1:W.cell? ⟨b,1,none⟩=some (.bool ro):=za0 hbx 1 _ rfl;have k2:W.cell? ⟨b,2,none⟩=some (.bool rc):=za0 hbx 2 _ rfl;have hbl:b<W.heap.size:=(Qq.1 hbx).1;have dw:=hid (hR.out W.drew (hbW.block C hcl));have dx:=hid (hL.out W.drew.drew hbW.drew.drew);clear hbx dh bg;go_wp2_with fail
  go_region_held3 (λw'=>w'.cell? ⟨b,0,none⟩=some (.int .i64 (n:Nat))/\w'.cell? ⟨b,1,none⟩=some (.bool ro)/\w'.cell? ⟨b,2,none⟩=some (.bool rc))
   ((refine⟨?_,?_,?_⟩<;>(first|assumption|with_reducible exact k0|with_reducible exact k1|with_reducible exact k2)))
   (first|(go_at_call 154;refine dw.out.mono ?_;rintro e w'⟨rfl,rfl⟩;have j0:W.drew.drew.cell? ⟨b,0,none⟩=some (.int .i64 (n:Nat)):=k0;have j1:W.drew.drew.cell? ⟨b,1,none⟩=some (.bool ro):=k1;have j2:W.drew.drew.cell? ⟨b,2,none⟩=some (.bool rc):=k2)|(go_at_call 162;refine dx.out.mono ?_;rintro e w2⟨m1,m2,rfl,hm1,hm2,hC2,hf2⟩;have hbb:=λ(o:Nat)=>zfw (hf2.block b hbl (hnl.out b hbz)) o;have j0:=(hbb 0).trans k0;have j1:=(hbb 1).trans k1;have j2:=(hbb 2).trans k2))
  go_end0;have hzz:=hbW.size;exact⟨m1,m2,rfl,Qj hzz hm1,Qj hzz hm2,hC2,((Fr.zii hbW).drew.drew).trans hf2 (λx hx=>.inl hx)⟩
theorem S.zn1 (l:List UInt8):(S.zcf l).length<=l.length:=by
 have h:=S.zkh (l.length+1) l;have hr:(Lib.replaceAll l [10] [32]).length=l.length:=S.zi2 l;unfold S.zcf;simp only;split
 ·rw[Ql,Qf];omega
 ·omega
def zh3 (ct:ByteArray)(k n e:Nat):Pt:=.mk 11 [] (S.zcf ((ct.data.toList.drop (k+n)).take (e-n))) [] 0 false false
theorem zpx (C:Nat)(ct:ByteArray)(f k n:Nat)(x3 x4 x5:Value)(w:World)(h:w.heap[C]?=some (.cells [.string ct,.int .i64 (f:Nat),.int .i64 (k:Nat),x3,x4,x5].toArray 168 (0,0)))(hsm:ct.size<=1000000)(hk:k<ct.size)(h1:1<=n)(hn:k+n<=ct.size)(hv:S.ze9 (ct.data.toList.drop k) n=none):Calls prog 155 #[.pointer (some ⟨C,0,none⟩),.int .i64 (n:Nat)] w λe w'=>e=.returned (.bool false)/\Below w.heap.size w w':=by
 have hR:=hid (zeh C ct f k x3 x4 x5 w h (Nat.le_of_lt hk));have hz:(ct.extract k ct.size).size=ct.size-k:=by simp
 have hSp:=hid (λwx=>zm4 (ct.extract k ct.size) n wx (by omega) (by omega) h1 none (by rw[zbi];exact hv));clear h;go_enter func155,ntmps155;go_wp2_with fail
 refine hR.out.mono ?_;rintro e w'⟨rfl,rfl⟩;go_wp2_with fail
 refine(hSp.out _).mono ?_;rintro e w'⟨rfl,rfl⟩;simp only[Option.map_none,Option.getD_none,Option.isSome_none];go_wp2;go_ret;exact⟨rfl,(Below.refl _ _).drew⟩
theorem zq2 (C:Nat)(ct:ByteArray)(f k n v:Nat)(ms:List Mem)(os:List Opn)(sa:Option Addr)(sc:Nat)(A:Nat->Prop)(w:World)(h:Cut C ct f k ms os sa sc A w)(hk:k<ct.size)(h1:1<=n)(hn:k+n<=ct.size)(hv:S.ze9 (ct.data.toList.drop k) n=some v)(hnv:n<=v)(hvl:k+v+n<=ct.size)(henv:Env w):Calls prog 155 #[.pointer (some ⟨C,0,none⟩),.int .i64 (n:Nat)] w λe w'=>∃m1 m2,e=.returned (.bool true)/\w.heap.size<=m1/\w.heap.size<=m2/\Cut C ct (k+(v+n)) (k+(v+n)) ((ms++zcu ct f k m1)++[⟨m2,zh3 ct k n v,none,none⟩]) os sa sc A w'/\Fr (C::blks ms) w w':=by
 have hcl:=h.lt;have hcc:=h.cells;have hsm:=h.small;have hR:=hid (zeh C ct f k _ _ _ w hcc (Nat.le_of_lt hk));have hz:(ct.extract k ct.size).size=ct.size-k:=by simp
 have hSp:=hid (λwx=>zm4 (ct.extract k ct.size) n wx (by omega) (by omega) h1 (some v) (by rw[zbi];exact hv));obtain⟨bt,hbt⟩:=Qyy ((ct.extract k ct.size).extract n v);have bg:bt.data.toList=(ct.data.toList.drop (k+n)).take (v-n):=by rw[<-hbt,zd4,zbi,Qbb]
 have dx:bt.size=v-n:=by rw[<-hbt];simp;omega
 have dh:Hid (∀wx,Calls prog 198 #[.string (ct.extract k ct.size),.int .i64 (n:Nat)] wx λe w'=>e=.returned (.tuple #[.string bt,.bool true])/\wx=w'):=hid (λwx=>by have:=hSp.out wx;simp only[Option.map_some,Option.getD_some,Option.isSome_some,hbt] at this;exact this);have hSt:=hid (λ(wx:World) (hx:Below w.heap.size w wx)=>zqr bt wx (by omega) (henv.below hx));have hL:=hid (λ(wx:World) (hb:Below w.heap.size w wx) (r:ByteArray) (hr:r.data.toList=S.zcf bt.data.toList)=>zm2 C ct f k (v+n) ms os sa sc A (zh3 ct k n v) none none wx (h.below hb) (by omega) (by simp only[zh3,Pt.text];have:=S.zn1 ((ct.data.toList.drop (k+n)).take (v-n));rw[Ql] at this;omega) (by simp[zh3,Pt.rs]) .nil);have hpv:∀r:ByteArray,r.data.toList=S.zcf bt.data.toList->zhq (zh3 ct k n v) none none=.agg #[.int .i64 11,.string ⟨#[]⟩,.string r,.pointer none,.pointer none,.int .i64 0,.bool false,.bool false]:=λr hr=>by
  have:S.B (S.zcf ((ct.data.toList.drop (k+n)).take (v-n)))=r:=by rw[<-bg,<-hr,S.zbp]
  simp only[zhq,zh3,Pt.kind,Pt.info,Pt.text,Pt.rs,Pt.ro,Pt.rc,this];rfl
 have hL':Hid (∀(wx:World) (hb:Below w.heap.size w wx) (r:ByteArray) (hr:r.data.toList=S.zcf bt.data.toList),_):=hid (λwx hb r hr=>by have:=hL.out wx hb r hr;rw[hpv r hr] at this;exact this);clear h hcc hL hpv hSp bg hbt;have fq:(bt.size:Int)=(v:Int)-(n:Int):=by omega
 go_enter func155,ntmps155;go_wp2_with fail
 refine hR.out.mono ?_;rintro e w'⟨rfl,rfl⟩;go_wp2_with fail
 refine(dh.out _).mono ?_;rintro e w'⟨rfl,rfl⟩;go_wp2_with fail
 refine(hSt.out _ (Below.refl _ _).drew).mono ?_;rintro e w1⟨r,rfl,hr,hb1⟩;have hL1:=hid (hL'.out w1 ((Below.refl _ w).drew.trans hb1) r hr.out);rw[show ((v+n:Nat):Int)=((v-n:Nat):Int)+2*(n:Int) by omega] at hL1;have dw:=hid hb1;clear hb1;go_wp2_with fail
 refine hL1.out.mono ?_;rintro e w2⟨m1,m2,rfl,hm1,hm2,hC2,hf2⟩;have hall:=hid (And.intro hC2 hf2);clear hC2 hf2;go_wp2;go_ret;have hzz:w.heap.size<=w1.heap.size:=dw.out.size;exact⟨m1,m2,rfl,Qj hzz hm1,Qj hzz hm2,hall.out.1,(Fr.zii ((Below.refl _ w).drew.trans dw.out)).trans hall.out.2 (λx hx=>.inl hx)⟩
def zhu (t:List UInt8):Pt:=.mk 12 t [] [zbk t] 0 false false
theorem z5o (V:Nat)(p:Pt)(kf kl:Option Addr)(w:World)(i0 i5:Int)(s1 s2:ByteArray)(a3 a4:Option Addr)(b6 b7:Bool)(hpv:zhq p kf kl=.agg #[.int .i64 i0,.string s1,.string s2,.pointer a3,.pointer a4,.int .i64 i5,.bool b6,.bool b7])(T:Nat)(h:w.heap[V]?=some (.cells #[.int .i64 i0,.string s1,.string s2,.pointer a3,.pointer a4,.int .i64 i5,.bool b6,.bool b7] T (0,0))):Calls prog 201 #[.slice (some ⟨V,0,none⟩) 1 1] w λe w'=>∃m,e=.returned (.agg #[.pointer (some ⟨m,0,none⟩),.pointer (some ⟨m,0,none⟩)])/\w.heap.size<=m/\m<w'.heap.size/\Hid (w'.heap[m]?=some (.cells (zcz ⟨m,p,kf,kl⟩ none none).toArray 179 (0,0)))/\Below w.heap.size w w':=by
 have fq:V<w.heap.size:=(Qq.1 h).1;obtain⟨w2,hw2⟩:=Qzz ((w.alloc (.cells #[.pointer none,.pointer none] 135)).alloc (.cells #[.pointer none,.pointer none] 135));have hs1:∀ob,(w.alloc ob).heap.size=w.heap.size+1:=by intro ob;simp
 have hs2:w2.heap.size=w.heap.size+2:=by rw[hw2];simp
 have hb2:Below w.heap.size w w2:=by rw[hw2];exact((Below.refl _ _).alloc (Qc _) _).alloc (by simp) _
 have hV2:w2.heap[V]?=some (.cells #[.int .i64 i0,.string s1,.string s2,.pointer a3,.pointer a4,.int .i64 i5,.bool b6,.bool b7] T (0,0)):=(hb2.block V fq).trans h;have hC2:Ch w2 (w.heap.size+1) 0 135 [.pointer none,.pointer none] []:=⟨trivial,⟨by rw[hw2,<-hs1];exact za1 _ _,by simp⟩,List.nodup_nil,by simp[blks]⟩;have hA:=hid (λ(w1:World) (h1:Ch w1 (w.heap.size+1) 0 135 [.pointer none,.pointer none] [])=>zk6 (w.heap.size+1) 0 135 [.pointer none,.pointer none] [] p kf kl w1 h1);rw[hpv] at hA;have q0:w2.cell? ⟨V,0,none⟩=some (.int .i64 i0):=za0 hV2 0 _ rfl;have q1:w2.cell? ⟨V,1,none⟩=some (.string s1):=za0 hV2 1 _ rfl;have q2:w2.cell? ⟨V,2,none⟩=some (.string s2):=za0 hV2 2 _ rfl;have q3:w2.cell? ⟨V,3,none⟩=some (.pointer a3):=za0 hV2 3 _ rfl;have q4:w2.cell? ⟨V,4,none⟩=some (.pointer a4):=za0 hV2 4 _ rfl;have q5:w2.cell? ⟨V,5,none⟩=some (.int .i64 i5):=za0 hV2 5 _ rfl;have q6:w2.cell? ⟨V,6,none⟩=some (.bool b6):=za0 hV2 6 _ rfl;have q7:w2.cell? ⟨V,7,none⟩=some (.bool b7):=za0 hV2 7 _ rfl;have gq:=hid (hA.out (w2.alloc (.cells #[.int .i64 i0,.string s1,.string s2,.pointer a3,.pointer a4,.int .i64 i5,.bool b6,.bool b7] 177)) (hC2.move (λx hx=>Below.heap_alloc _ _ _ (by simp[blks] at hx;omega))));have dx:=hid hb2;have hX2:Hid (w2.heap[w.heap.size]?=some (.cells #[.pointer none,.pointer none] 135 (0,0))):=hid (by rw[hw2,Below.heap_alloc _ _ _ (by rw[hs1];omega)];exact za1 _ _);have bg:=hid hs2;clear hC2 hV2 h hpv hA hb2 hs2;go_enter func201,ntmps201;go_wp2_with fail
 rw[<-hw2];clear hw2 hs1;go_loopg [8] 1 (λk s8 wr=>(k=1/\s8=.int .i64 0/\wr=w2)\/(k=0/\s8=.int .i64 1/\∃m,w.heap.size<m/\Ch wr (w.heap.size+1) 0 135 [.pointer none,.pointer none] [⟨m,p,kf,kl⟩]/\Below w.heap.size w wr/\wr.heap[w.heap.size]?=some (.cells #[.pointer none,.pointer none] 135 (0,0))))
 case atStart=>exact .inl ⟨rfl,rfl,rfl⟩
 case round=>
  rcases hrel with ⟨rfl,rfl,rfl⟩|⟨rfl,rfl,m,hm,hC,hb,hX⟩
  ·go_wp2_with (fail);refine gq.out.mono ?_;rintro e w3⟨rfl,dh,hf3,hs3⟩;have hall:=hid (And.intro dh (And.intro hf3 hs3));clear dh hf3 hs3;go_wp2;go_roundg 0
   case rel=>
    refine .inr ⟨rfl,rfl,_,?_,hall.out.1,?_,?_⟩
    ·have:=bg.out;simp;omega
    ·have dw:=hall.out.2.1.below (B:=w.heap.size) (by have:=bg.out;simp;omega) (λx hx=>by simp[blks] at hx;omega);exact(dx.out.alloc (by have:=bg.out;omega) _).trans dw
    ·rw[hall.out.2.1.block _ (by have:=bg.out;simp;omega) (by simp[blks]),Below.heap_alloc _ _ _ (by have:=bg.out;omega)];exact hX2.out
   case measure=>simp
  ·have hall:=hid (And.intro hC hb);have hcc:=hC.hdr.1;have k0:wr.cell? ⟨w.heap.size+1,0,none⟩=some (.pointer (some ⟨m,0,none⟩)):=za0 hcc 0 _ rfl;have k1:wr.cell? ⟨w.heap.size+1,1,none⟩=some (.pointer (some ⟨m,0,none⟩)):=za0 hcc 1 _ rfl;have x0:wr.cell? ⟨w.heap.size,0,none⟩=some (.pointer none):=za0 hX 0 _ rfl;have x1:wr.cell? ⟨w.heap.size,1,none⟩=some (.pointer none):=za0 hX 1 _ rfl;have xf:=za7 hX;have gy:=hid hX;clear hC hb hcc hX;go_wp2;have hms:m≠w.heap.size:=by omega
   have hml:m<wr.heap.size:=hall.out.1.mlt m (by simp[blks]);refine bodyPost_ret (v:=.agg #[.pointer (some ⟨m,0,none⟩),.pointer (some ⟨m,0,none⟩)]) (by simp[results,results201,go_sem,x0,x1]) rfl ⟨m,rfl,Nat.le_of_lt hm,by simp;exact hml,hid ?_,(hall.out.2.setCell (Qc _) _).setCell (Qc _) _⟩;have h0:=hall.out.1.seg.1;have hfr:Fr [w.heap.size] wr ((wr.setCell ⟨w.heap.size,0,none⟩ (.pointer (some ⟨m,0,none⟩))).setCell ⟨w.heap.size,1,none⟩ (.pointer (some ⟨m,0,none⟩))):=(((Fr.refl _ wr).setCell _ (.inl (by simp)) _).setCell _ (.inl (by simp)) _);rw[hfr.block m hml (by simp[hms])];exact h0
theorem zmu (C:Nat)(ct:ByteArray)(f k n:Nat)(ms:List Mem)(os:List Opn)(sa:Option Addr)(sc:Nat)(A:Nat->Prop)(w:World)(h:Cut C ct f k ms os sa sc A w)(hk:k<ct.size)(hok:S.zdb (ct.data.toList.drop k)=true)(hn:(S.zck (ct.data.toList.drop k)).length=n)(hkn:k+(n+2)<=ct.size):Calls prog 156 #[.pointer (some ⟨C,0,none⟩)] w λe w'=>∃m1 m2 m3,e=.returned (.bool true)/\w.heap.size<=m1/\w.heap.size<=m2/\w.heap.size<=m3/\Cut C ct (k+(n+2)) (k+(n+2)) ((ms++zcu ct f k m1)++[⟨m2,zhu (S.zck (ct.data.toList.drop k)),some ⟨m3,0,none⟩,some ⟨m3,0,none⟩⟩]) os sa sc (λx=>A x\/x=m3) w'/\Fr (C::blks ms) w w':=by
 have hcl:=h.lt;have hcc:=h.cells;have hsm:=h.small;have hR:=hid (zeh C ct f k _ _ _ w hcc (Nat.le_of_lt hk));have hz:(ct.extract k ct.size).size=ct.size-k:=by simp
 obtain⟨t,ht⟩:=Qyy (S.zck (ct.data.toList.drop k));rw[ht] at hn ⊢;have hAn:Hid (∀wx,Calls prog 200 #[.string (ct.extract k ct.size)] wx λe w'=>∃r:ByteArray,e=.returned (.tuple #[.string r,.bool true])/\Hid (r.data.toList=t)/\Below wx.heap.size wx w'):=hid (λwx=>by
  have:=zno (ct.extract k ct.size) wx (by omega) (by omega);rw[zbi,hok,ht] at this;exact this.mono (λe w' ⟨r,h1,h2,h3⟩=>⟨r,h1,hid (h2.out rfl),h3⟩))
 have hL:=hid (λ(wx:World) (m3:Nat) (h1:w.heap.size<=m3) (h2:m3<wx.heap.size) (hx:wx.heap[m3]?=some (.cells (zcz ⟨m3,zbk t,none,none⟩ none none).toArray 179 (0,0))) (hb:Below w.heap.size w wx)=>
  zm2 C ct f k (n+2) ms os sa sc (λx=>A x\/x=m3) (zhu t) (some ⟨m3,0,none⟩) (some ⟨m3,0,none⟩) wx (h.more hb (λx hx=>.inl hx) (λx hx=>by rcases hx with hx|hx;exact .inl hx;exact .inr ⟨by omega,by omega⟩)) hkn (by simp[zhu,Pt.text]) (by simp[zhu,Pt.rs])
   (KRep.cons ⟨m3,zbk t,none,none⟩ none none [] (.inr rfl) hx .nil .nil))
 clear h hcc ht;go_enter func156,ntmps156;go_wp2_with fail
 refine hR.out.mono ?_;rintro e w'⟨rfl,rfl⟩;go_wp2_with fail
 refine(hAn.out _).mono ?_;rintro e w1⟨r,rfl,hr,hb1⟩;have hrs:r.size=n:=by rw[<-S.lda,hr.out];exact hn
 have hrb:S.B t=r:=by rw[<-hr.out,S.zbp]
 have gy:=hid (λ(wx:World) (V:Nat) (hV:wx.heap[V]?=some (.cells #[.int .i64 8,.string ⟨#[]⟩,.string r,.pointer none,.pointer none,.int .i64 0,.bool false,.bool false] 177 (0,0)))=>z5o V (zbk t) none none wx 8 0 ⟨#[]⟩ r none none false false (by rw[<-hrb];rfl) _ hV);obtain⟨W,hW⟩:=Qzz (((w1.alloc (.cells #[.int .i64 8,.string ⟨#[]⟩,.string r,.pointer none,.pointer none,.int .i64 0,.bool false,.bool false] 177)).alloc (.cells #[.int .i64 8,.string ⟨#[]⟩,.string r,.pointer none,.pointer none,.int .i64 0,.bool false,.bool false] 177)));have hs1:∀ob,(w1.alloc ob).heap.size=w1.heap.size+1:=by intro ob;simp
 have gq:Below w.heap.size w W:=by rw[hW];exact((((Below.refl _ w).drew).trans hb1).alloc hb1.size _).alloc (by have:=hb1.size;simp;exact Nat.le_succ_of_le this) _
 have jh:=hid (gy.out W (w1.heap.size+1) (by rw[hW,<-hs1];exact za1 _ _));have dx:=hid gq;clear gq hb1 gy hs1;go_wp2_with fail
 rw[<-hW];clear hW;refine jh.out.mono ?_;rintro e w3⟨m3,rfl,jg,dw,hx3,hb3⟩;have dh:w.heap.size<=W.heap.size:=dx.out.size;have hL3:=hid (hL.out w3 m3 (by omega) dw hx3.out (dx.out.trans (hb3.mono dh)));rw[show zhq (zhu t) (some ⟨m3,0,none⟩) (some ⟨m3,0,none⟩)=.agg #[.int .i64 12,.string r,.string ⟨#[]⟩,.pointer (some ⟨m3,0,none⟩),.pointer (some ⟨m3,0,none⟩),.int .i64 0,.bool false,.bool false] by rw[<-hrb];rfl,show ((n+2:Nat):Int)=(n:Int)+2 by omega] at hL3;have bg:=hid (dx.out.trans (hb3.mono dh));clear hb3 hx3;go_wp2_with fail
 refine hL3.out.mono ?_;rintro e w4⟨m1,m2,rfl,hm1,hm2,jd,fq⟩;have hall:=hid (And.intro jd fq);clear jd fq;go_wp2;go_ret;have hzz:=bg.out.size;exact⟨m1,m2,m3,rfl,Qj hzz hm1,Qj hzz hm2,Qj dh jg,hall.out.1,(Fr.zii bg.out).trans hall.out.2 (λx hx=>.inl hx)⟩
theorem zm0 (C:Nat)(ct:ByteArray)(f k:Nat)(x3 x4 x5:Value)(w:World)(h:w.heap[C]?=some (.cells [.string ct,.int .i64 (f:Nat),.int .i64 (k:Nat),x3,x4,x5].toArray 168 (0,0)))(hsm:ct.size<=1000000)(hk:k<ct.size)(hok:S.zdb (ct.data.toList.drop k)=false):Calls prog 156 #[.pointer (some ⟨C,0,none⟩)] w λe w'=>e=.returned (.bool false)/\Below w.heap.size w w':=by
 have hR:=hid (zeh C ct f k _ _ _ w h (Nat.le_of_lt hk));have hz:(ct.extract k ct.size).size=ct.size-k:=by simp
 have hAn:Hid (∀wx,Calls prog 200 #[.string (ct.extract k ct.size)] wx λe w'=>∃r:ByteArray,e=.returned (.tuple #[.string r,.bool false])/\Below wx.heap.size wx w'):=hid (λwx=>by
  have:=zno (ct.extract k ct.size) wx (by omega) (by omega);rw[zbi,hok] at this;exact this.mono (λe w' ⟨r,h1,h2,h3⟩=>⟨r,h1,h3⟩))
 clear h;go_enter func156,ntmps156;go_wp2_with fail
 refine hR.out.mono ?_;rintro e w'⟨rfl,rfl⟩;go_wp2_with fail
 refine(hAn.out _).mono ?_;rintro e w1⟨r,rfl,hb1⟩;have bg:=hid hb1;clear hb1;go_wp2;go_ret;exact⟨rfl,(Below.refl _ w).drew.trans bg.out⟩
end Go.Proofs.YtlojgpkajkedeaaGreatDoor
