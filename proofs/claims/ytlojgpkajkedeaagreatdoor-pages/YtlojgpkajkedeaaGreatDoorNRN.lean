import Derived.Test.YtlojgpkajkedeaaGreatDoorNStr5
import Derived.Test.YtlojgpkajkedeaaGreatDoorNE24
import Derived.Test.YtlojgpkajkedeaaGreatDoorNRJ
set_option maxHeartbeats 16000000
set_option maxRecDepth 100000
namespace Go.Proofs.YtlojgpkajkedeaaGreatDoor
open Go.RowKit Go.Proofs.Tryz
def LOK (C:List UInt8->List Rn->Prop)(d:Nat):Prop:=∀(b o cap:Nat) (p0:Ln) (ts:List Ln) (z:Int) (w:World) (m:S.Mark),ts.length+1<=cap->b<w.heap.size->RowL w b o (p0::ts)->Num z (p0::ts)->S.item p0.1.data.toList=m->m.ok=true->bytes (datL (p0::ts))<=d ->
 Calls prog 98 #[.slice (some ⟨b,o,none⟩) (ts.length+1) cap,.agg #[.int .u8 (m.kind.toNat:Int),.int .i64 m.number,.bool m.empty,.int .i64 (m.zaa:Nat)]] w λe w'=>∃kv ns,e=.returned (.tuple #[zon (.nd 6 m.number [] (zc4 6 [] (S.zbh (S.za2 d) m (datL (p0::ts))).1.loose) 0 ns) kv,.int .i64 ((S.zbh (S.za2 d) m (datL (p0::ts))).2:Nat)])/\RepN w' (λx=>w.heap.size<=x/\x<w'.heap.size) kv ns/\Hid (MatL C z (S.zbh (S.za2 d) m (datL (p0::ts))).1.kids ns)/\Below w.heap.size w w'
def z5i (C:List UInt8->List Rn->Prop)(z:Int)(R:S.Blk × Nat)(w:World)(e:Ending)(w':World):Prop:=∃kv ns,e=.returned (.tuple #[zon (.nd R.1.kind R.1.n R.1.info (zc4 R.1.kind R.1.text R.1.loose) 0 ns) kv,.int .i64 (R.2:Nat)])/\RepN w' (λx=>w.heap.size<=x/\x<w'.heap.size) kv ns/\Hid (KidB C z R.1 ns)/\Below w.heap.size w w'
theorem S.zz6 (l:List UInt8)(h:(S.fence l).ok=true):1<=(S.fence l).width/\(S.fence l).ind=S.indent l:=by
 cases hsh:S.shallow l with
 | nil=>rw[S.zlc l hsh] at h;simp at h
 | cons c t=>
  by_cases h1:c=96\/c=126
  ·rw[S.zj1 l c t hsh h1];exact⟨by simp only[S.cnt];simp,rfl⟩
  ·rw[S.zpb l c t hsh (λe=>h1 (.inl e)) (λe=>h1 (.inr e))] at h;simp at h
def zw1 (C:List UInt8->List Rn->Prop)(z:Int)(B:S.Blk)(WM:World)(K n:Int)(inf tx:ByteArray)(sz:Int)(e:Ending)(w2:World):Prop:=∃ka kn kc ns,e=.returned (.tuple #[.agg #[.int .i64 0,.int .i64 K,.int .i64 n,.string inf,.string tx,.int .i64 0,.slice ka kn kc],.int .i64 sz])/\Hid (RepN w2 (λx=>WM.heap.size<=x/\x<w2.heap.size) (.slice ka kn kc) ns/\KidB C z B ns/\Below WM.heap.size WM w2)
def BIs (R:S.Blk × Nat)(K n:Int)(inf tx:ByteArray)(sz:Int):Prop:=(∀kv ns,zon (.nd R.1.kind R.1.n R.1.info (zc4 R.1.kind R.1.text R.1.loose) 0 ns) kv=.agg #[.int .i64 0,.int .i64 K,.int .i64 n,.string inf,.string tx,.int .i64 0,kv])/\(R.2:Int)=sz
theorem zw5 (C:List UInt8->List Rn->Prop)(d:Nat)(hW:WOK C)(hR:ROK C d)(hL:LOK C d)(b o cap:Nat)(p0:Ln)(ts:List Ln)(z:Int)(w:World)(hcap:ts.length+1<=cap)(hrow:RowL w b o (p0::ts))(hnum:Num z (p0::ts))(hbw:b<w.heap.size)(hnb:S.blank p0.1.data.toList=false)(hd:bytes (datL (p0::ts))<=d):Calls prog 68 #[.slice (some ⟨b,o,none⟩) (ts.length+1) cap] w (z5i C z (S.zaf (S.za2 d) (datL (p0::ts))) w):=by
 obtain⟨W0,hW0,hb0,hz0,hx0⟩:=zlx w;have hlen:=hrow.len;simp only[Qd] at hlen;have jg:=hrow.below hb0 hbw;have hsz0:=hrow.size 0 p0 rfl;have hdc:datL (p0::ts)=p0.1.data.toList::datL ts:=rfl;obtain⟨RB,xq⟩:=Qyy (S.zaf (S.za2 d) (datL (p0::ts)));rw[xq];have hc0:W0.cell? ⟨b,o,none⟩=some (.string p0.1):=by simpa using (jg.1 0 p0 rfl).1
 have qm:Hid (Calls prog 89 #[.string p0.1] W0 λe w'=>e=.returned (.bool (S.zbz p0.1.data.toList))/\W0=w'):=hid ((zmj p0.1 W0 hsz0).mono (λe w' ⟨h1,h2⟩=>⟨h1,h2.symm⟩));have ng:Hid (Calls prog 90 #[.string p0.1] W0 λe w'=>∃X:ByteArray,e=.returned (.tuple #[.int .i64 (S.zaq p0.1.data.toList:Nat),.string X])/\Hid (0<S.zaq p0.1.data.toList->X=S.B (S.zal p0.1.data.toList))/\W0=w'):=hid ((znh p0.1 W0 hsz0).mono (λe w' ⟨X,h1,h2,h3⟩=>⟨X,h1,h2,h3.symm⟩));have vg:Hid (Calls prog 91 #[.string p0.1] W0 λe w'=>∃(m k:Int) (x:ByteArray),e=.returned (.tuple #[.int .u8 m,.int .i64 k,.string x])/\Hid (zfi p0.1.data.toList m k x)/\W0=w'):=hid ((znl p0.1 W0 hsz0).mono (λe w' ⟨m,k,x,h1,h2,h3⟩=>⟨m,k,x,h1,h2,h3.symm⟩));have qp:Hid (Calls prog 92 #[.string p0.1] W0 λe w'=>e=.returned (.bool (S.zat p0.1.data.toList))/\W0=w'):=hid ((zg2 p0.1 W0 hsz0).mono (λe w' ⟨h1,h2⟩=>⟨h1,h2.symm⟩));have tq:Hid (Calls prog 93 #[.string p0.1] W0 (zya p0.1.data.toList W0)):=hid (zio p0.1 W0 hsz0);have hIn:Hid (∀wx,Calls prog 88 #[.string p0.1] wx λe w'=>e=.returned (.int .i64 (S.indent p0.1.data.toList:Nat))/\wx=w'):=hid (λwx=>(zcc p0.1 wx hsz0).mono (λe w' ⟨h1,h2⟩=>⟨h1,h2.symm⟩));obtain⟨x0,kr⟩:=Qyy (p0.1.data.toList);rw[kr] at qm ng vg qp tq hIn hdc hnb;obtain⟨ru,qx⟩:=Qyy (S.zbz x0);obtain⟨lv,hlv⟩:=Qyy (S.zaq x0);obtain⟨q,hq⟩:=Qyy (S.zat x0);obtain⟨ind,jm⟩:=Qyy (S.indent x0);rw[qx] at qm;rw[hlv] at ng;obtain⟨pq,lg⟩:∃pq:Int,(lv:Int)=pq:=⟨_,rfl⟩;rw[lg] at ng;rw[hq] at qp;rw[jm] at hIn;have hspec:Hid (RB=if 4<=ind then S.zb9 (datL (p0::ts)) else if ru=true then (.mk 4 0 [] [] false [],1) else if 0<lv then (.mk 2 lv [] (S.zal x0) false [],1) else if (S.fence x0).ok=true then S.zbu (S.fence x0) (datL (p0::ts)) else if q=true then (.mk 5 0 [] [] false (S.za2 d (S.zae (datL (p0::ts)))).1,(S.zae (datL (p0::ts))).length) else if (S.item x0).ok=true then S.zbh (S.za2 d) (S.item x0) (datL (p0::ts)) else S.za8 (datL (p0::ts))):=hid (by
  rw[<-xq,<-qx,<-hlv,<-hq,<-jm,hdc];rfl)
 have zh:=hid qx;have zk:=hid hlv;have jh:=hid lg;have yc:=hid hq;have qg:=hid jm;have jw:=hid jg;have jy:=hid hnum;have yj:=hid hW;have zm:=hid hR;have zn:=hid hL;have pz:=hid hx0;have qh:=hid hb0;have qj:=hid hW0;have yg:=hid hd;have vv:=hid hnb;have jq:=hid hdc;have dh:=hid kr;have hbW0:b<W0.heap.size:=by omega
 have jl:w.heap.size<W0.heap.size:=by omega
 obtain⟨s0,z0⟩:=p0;dsimp only at hc0 qm ng vg qp tq hIn hsz0;clear qx hlv lg hq jm jg hrow hnum hW hR hL hx0 hb0 hW0 hz0 hd hnb hdc kr xq;go_enter func68,ntmps68;go_upto_region 1 with fail
 rw[<-qj.out];go_wp2_with fail
 refine qm.out.mono ?_;rintro e w'⟨rfl,rfl⟩;go_wp2_with fail
 refine ng.out.mono ?_;rintro e w'⟨X,rfl,hX,rfl⟩;go_wp2_with fail
 refine vg.out.mono ?_;rintro e w'⟨fm,fk,fx,rfl,hF,rfl⟩;go_wp2_with fail
 refine qp.out.mono ?_;rintro e w'⟨rfl,rfl⟩;go_wp2_with fail
 refine tq.out.mono ?_;rintro e w6⟨ik,inn,ib,img,rfl,hIs,hb6⟩;obtain⟨vk,lq⟩:=Qyy ((S.item x0).ok);rw[lq];have mq:=hid hb6;have fq:=hid lq;clear lq hb6;go_upto_region 7 with fail
 obtain⟨WM,qz⟩:=Qzz (w6.alloc (.cells #[.int .u8 ik,.int .i64 inn,.bool ib,.int .i64 img] 150));rw[<-qz];have gy:Below W0.heap.size W0 WM:=by rw[qz];exact mq.out.alloc mq.out.size _
 have jd:WM.heap[w6.heap.size]?=some (.cells #[.int .u8 ik,.int .i64 inn,.bool ib,.int .i64 img] 150 (0,0)):=by rw[qz];exact za1 _ _
 have m0:WM.cell? ⟨w6.heap.size,0,none⟩=some (.int .u8 ik):=za0 jd 0 _ rfl;have m1:WM.cell? ⟨w6.heap.size,1,none⟩=some (.int .i64 inn):=za0 jd 1 _ rfl;have m2:WM.cell? ⟨w6.heap.size,2,none⟩=some (.bool ib):=za0 jd 2 _ rfl;have m3:WM.cell? ⟨w6.heap.size,3,none⟩=some (.int .i64 img):=za0 jd 3 _ rfl;have kg:=hid ((gy.block w.heap.size jl).trans pz.out);have mh:=hid (qh.out.trans (gy.mono (Nat.le_of_lt jl)));have dw:w.heap.size<WM.heap.size:=Qh jl gy.size;have jk:b<WM.heap.size:=Qh hbW0 gy.size;have dx:=hid (jw.out.below gy hbW0);clear qz gy jd jw qh pz qj mq qm ng vg qp tq hc0 jl hbW0;by_cases h4:4<=ind
 ·have bg:RB=S.zb9 (datL (((s0,z0):Ln)::ts)):=by rw[hspec.out,if_pos h4]
  have yx:=zvc b o cap (((s0,z0):Ln)::ts) WM hcap dx.out jk ⟨_,rfl,by have:=vv.out;rw[<-dh.out] at this;exact this,by rw[show S.indent ((s0,z0):Ln).1.data.toList=ind from by rw[dh.out,qg.out]];exact h4⟩;obtain⟨K,n,inf,tx,sz,hE0,gq⟩:∃K n inf tx sz,BIs RB K n inf tx sz/\Calls prog 94 #[.slice (some ⟨b,o,none⟩) (ts.length+1) cap] WM (zw1 C z RB.1 WM K n inf tx sz):=by
   refine⟨RB.1.kind,RB.1.n,S.B RB.1.info,S.B (zc4 RB.1.kind RB.1.text RB.1.loose),(RB.2:Int),⟨λkv ns=>rfl,rfl⟩,yx.mono ?_⟩;rintro e w2⟨rfl,hb2⟩;refine⟨none,0,0,[],?_,hid ⟨.nil,?_,hb2⟩⟩
   ·rw[bg];rfl
   ·rw[bg];simp[KidB,S.zb9,S.Blk.mk,S.Blk.kind,S.Blk.kids,MatL]
  have hE:=hid hE0;have hP:=hid gq;have hJ:(4:Int)<=(ind:Int):=by omega
  clear hE0 gq yx bg h4;go_wp2_with fail
  refine(hIn.out _).mono ?_;rintro e w'⟨rfl,rfl⟩;go_wp2_with fail
  refine hP.out.mono ?_;rintro e w2⟨ka,kn,kc,ns,rfl,hU⟩;have hx2:=(hU.out.2.2.block w.heap.size dw).trans kg.out;have hw2:w.heap.size<w2.heap.size:=Qh dw hU.out.2.2.size;have d0:w2.cell? ⟨w.heap.size,0,none⟩=some (.int .i64 0):=za0 hx2 0 _ rfl;have d1:w2.cell? ⟨w.heap.size,1,none⟩=some (.int .i64 0):=za0 hx2 1 _ rfl;have d2:w2.cell? ⟨w.heap.size,2,none⟩=some (.int .i64 0):=za0 hx2 2 _ rfl;have d3:w2.cell? ⟨w.heap.size,3,none⟩=some (.string ⟨#[]⟩):=za0 hx2 3 _ rfl;have d4:w2.cell? ⟨w.heap.size,4,none⟩=some (.string ⟨#[]⟩):=za0 hx2 4 _ rfl;have d5:w2.cell? ⟨w.heap.size,5,none⟩=some (.int .i64 0):=za0 hx2 5 _ rfl;have d6:w2.cell? ⟨w.heap.size,6,none⟩=some (.slice none 0 0):=za0 hx2 6 _ rfl;have g0:=za7 hx2;have hzz:=hid (set7 hx2 (.int .i64 0) (.int .i64 K) (.int .i64 n) (.string inf) (.string tx) (.int .i64 0) (.slice ka kn kc));have hbw2:Below w.heap.size w w2:=mh.out.trans (hU.out.2.2.mono (Nat.le_of_lt dw));have hbz:=hid (zbb (N:=w.heap.size) hbw2 (Qc _) (.int .i64 0) (.int .i64 K) (.int .i64 n) (.string inf) (.string tx) (.int .i64 0) (.slice ka kn kc));have hrz:=hid (zcw hU.out.1 (N:=w.heap.size) (λx hx e=>by have:=hx.1;omega) (.int .i64 0) (.int .i64 K) (.int .i64 n) (.string inf) (.string tx) (.int .i64 0) (.slice ka kn kc));clear hx2 hbw2;go_wp2;refine bodyPost_ret (v:=.tuple #[.agg #[.int .i64 0,.int .i64 K,.int .i64 n,.string inf,.string tx,.int .i64 0,.slice ka kn kc],.int .i64 sz]) (by have z0:=za0 hzz.out 0 _ rfl;have z1:=za0 hzz.out 1 _ rfl;have z2:=za0 hzz.out 2 _ rfl;have z3:=za0 hzz.out 3 _ rfl;have z4:=za0 hzz.out 4 _ rfl;have z5:=za0 hzz.out 5 _ rfl;have z6:=za0 hzz.out 6 _ rfl;simp[results,results68,go_sem,z0,z1,z2,z3,z4,z5,z6]) rfl ?_;exact⟨.slice ka kn kc,ns,by rw[hE.out.1,hE.out.2],hrz.out.move (λx hx=>⟨by have:=hx.1;omega,by rw[zho];exact hx.2⟩) (λ_ _=>rfl),hid hU.out.2.1,hbz.out⟩
 have ny:=hid h4;have hJ:¬(4:Int)<=(ind:Int):=by omega
 clear h4;cases ru
 case true=>
  have bg:RB=(.mk 4 0 [] [] false [],1):=by rw[hspec.out,if_neg ny.out,if_pos rfl]
  have vw:Hid (KidB C z RB.1 []):=hid (by rw[bg];unfold KidB;rw[if_neg (by show ¬((4:Int)=1\/(4:Int)=2);omega)];exact trivial);have hval:Hid (∀kv,zon (.nd RB.1.kind RB.1.n RB.1.info (zc4 RB.1.kind RB.1.text RB.1.loose) 0 []) kv=.agg #[.int .i64 0,.int .i64 4,.int .i64 0,.string ⟨#[]⟩,.string ⟨#[]⟩,.int .i64 0,kv]):=hid (λkv=>by rw[bg];rfl);have qb:Hid ((RB.2:Int)=1):=hid (by rw[bg];rfl);clear bg;go_wp2_with fail
  refine(hIn.out _).mono ?_;rintro e w'⟨rfl,rfl⟩;go_upto_region 10 with fail
  have hx2:=kg.out;have d0:WM.cell? ⟨w.heap.size,0,none⟩=some (.int .i64 0):=za0 hx2 0 _ rfl;have d1:WM.cell? ⟨w.heap.size,1,none⟩=some (.int .i64 0):=za0 hx2 1 _ rfl;have d2:WM.cell? ⟨w.heap.size,2,none⟩=some (.int .i64 0):=za0 hx2 2 _ rfl;have d3:WM.cell? ⟨w.heap.size,3,none⟩=some (.string ⟨#[]⟩):=za0 hx2 3 _ rfl;have d4:WM.cell? ⟨w.heap.size,4,none⟩=some (.string ⟨#[]⟩):=za0 hx2 4 _ rfl;have d5:WM.cell? ⟨w.heap.size,5,none⟩=some (.int .i64 0):=za0 hx2 5 _ rfl;have d6:WM.cell? ⟨w.heap.size,6,none⟩=some (.slice none 0 0):=za0 hx2 6 _ rfl;have g0:=za7 hx2;have hzz:=hid (set7 hx2 (.int .i64 0) (.int .i64 4) (.int .i64 0) (.string ⟨#[]⟩) (.string ⟨#[]⟩) (.int .i64 0) (.slice none 0 0));have hbz:=hid (zbb (N:=w.heap.size) mh.out (Qc _) (.int .i64 0) (.int .i64 4) (.int .i64 0) (.string ⟨#[]⟩) (.string ⟨#[]⟩) (.int .i64 0) (.slice none 0 0));clear hx2;go_wp2;refine bodyPost_ret (v:=.tuple #[.agg #[.int .i64 0,.int .i64 4,.int .i64 0,.string ⟨#[]⟩,.string ⟨#[]⟩,.int .i64 0,.slice none 0 0],.int .i64 1]) (by have z0:=za0 hzz.out 0 _ rfl;have z1:=za0 hzz.out 1 _ rfl;have z2:=za0 hzz.out 2 _ rfl;have z3:=za0 hzz.out 3 _ rfl;have z4:=za0 hzz.out 4 _ rfl;have z5:=za0 hzz.out 5 _ rfl;have z6:=za0 hzz.out 6 _ rfl;simp[results,results68,go_sem,z0,z1,z2,z3,z4,z5,z6]) rfl ?_;exact⟨.slice none 0 0,[],by rw[hval.out,qb.out],.nil,vw,hbz.out⟩
 by_cases hl:0<lv
 ·have bg:RB=(.mk 2 lv [] (S.zal x0) false [],1):=by rw[hspec.out,if_neg ny.out,if_neg (by simp),if_pos hl]
  have wm:=hX.out hl;have hle:(S.zal x0).length<=1000000:=by have:=S.zgm x0;rw[<-dh.out,S.lda] at this;rw[<-dh.out];exact Qj this hsz0
  have xg:=yj.out X WM (by rw[wm,S.zav];exact hle);have yh:X.data.toList=S.zal x0:=by rw[wm,S.zaz]
  rw[yh] at xg;obtain⟨K,n,inf,tx,sz,hE0,hK⟩:∃(K n:Int) (inf tx:ByteArray) (sz:Int),BIs RB K n inf tx sz/\(K=2/\n=pq/\inf=⟨#[]⟩/\tx=⟨#[]⟩/\sz=1):=
   ⟨2,pq,⟨#[]⟩,⟨#[]⟩,1,⟨λkv ns=>by rw[bg,<-jh.out];rfl,by rw[bg];rfl⟩,rfl,rfl,rfl,rfl,rfl⟩
  obtain⟨rfl,rfl,rfl,rfl,rfl⟩:=hK;have hE:=hid hE0;have hP:Hid (Calls prog 95 #[.string X] WM λe w2=>∃ka kn kc ns,e=.returned (.slice ka kn kc)/\Hid (RepN w2 (λx=>WM.heap.size<=x/\x<w2.heap.size) (.slice ka kn kc) ns/\KidB C z RB.1 ns/\Below WM.heap.size WM w2)):=hid (xg.mono (by
   rintro e w2⟨kv,ns,rfl,hrep,hM,hb2⟩;obtain⟨ka,kn,kc,rfl⟩:=hrep.form;refine⟨ka,kn,kc,ns,rfl,hid ⟨hrep,?_,hb2⟩⟩;rw[bg];unfold KidB;rw[if_pos (by right;rfl)];exact hM.out))
  have zq:(0:Int)<n:=by have:=jh.out;omega
  clear hE0 xg wm yh hle bg hl;go_wp2_with fail
  refine(hIn.out _).mono ?_;rintro e w'⟨rfl,rfl⟩;go_wp2_with fail
  refine hP.out.mono ?_;rintro e w2⟨ka,kn,kc,ns,rfl,hU⟩;have hx2:=(hU.out.2.2.block w.heap.size dw).trans kg.out;have hw2:w.heap.size<w2.heap.size:=Qh dw hU.out.2.2.size;have d0:w2.cell? ⟨w.heap.size,0,none⟩=some (.int .i64 0):=za0 hx2 0 _ rfl;have d1:w2.cell? ⟨w.heap.size,1,none⟩=some (.int .i64 0):=za0 hx2 1 _ rfl;have d2:w2.cell? ⟨w.heap.size,2,none⟩=some (.int .i64 0):=za0 hx2 2 _ rfl;have d3:w2.cell? ⟨w.heap.size,3,none⟩=some (.string ⟨#[]⟩):=za0 hx2 3 _ rfl;have d4:w2.cell? ⟨w.heap.size,4,none⟩=some (.string ⟨#[]⟩):=za0 hx2 4 _ rfl;have d5:w2.cell? ⟨w.heap.size,5,none⟩=some (.int .i64 0):=za0 hx2 5 _ rfl;have d6:w2.cell? ⟨w.heap.size,6,none⟩=some (.slice none 0 0):=za0 hx2 6 _ rfl;have g0:=za7 hx2;have hzz:=hid (set7 hx2 (.int .i64 0) (.int .i64 2) (.int .i64 n) (.string ⟨#[]⟩) (.string ⟨#[]⟩) (.int .i64 0) (.slice ka kn kc));have hbw2:Below w.heap.size w w2:=mh.out.trans (hU.out.2.2.mono (Nat.le_of_lt dw));have hbz:=hid (zbb (N:=w.heap.size) hbw2 (Qc _) (.int .i64 0) (.int .i64 2) (.int .i64 n) (.string ⟨#[]⟩) (.string ⟨#[]⟩) (.int .i64 0) (.slice ka kn kc));have hrz:=hid (zcw hU.out.1 (N:=w.heap.size) (λx hx e=>by have:=hx.1;omega) (.int .i64 0) (.int .i64 2) (.int .i64 n) (.string ⟨#[]⟩) (.string ⟨#[]⟩) (.int .i64 0) (.slice ka kn kc));clear hx2 hbw2;go_wp2;refine bodyPost_ret (v:=.tuple #[.agg #[.int .i64 0,.int .i64 2,.int .i64 n,.string ⟨#[]⟩,.string ⟨#[]⟩,.int .i64 0,.slice ka kn kc],.int .i64 1]) (by have z0:=za0 hzz.out 0 _ rfl;have z1:=za0 hzz.out 1 _ rfl;have z2:=za0 hzz.out 2 _ rfl;have z3:=za0 hzz.out 3 _ rfl;have z4:=za0 hzz.out 4 _ rfl;have z5:=za0 hzz.out 5 _ rfl;have z6:=za0 hzz.out 6 _ rfl;simp[results,results68,go_sem,z0,z1,z2,z3,z4,z5,z6]) rfl ?_;exact⟨.slice ka kn kc,ns,by rw[hE.out.1,hE.out.2],hrz.out.move (λx hx=>⟨by have:=hx.1;omega,by rw[zho];exact hx.2⟩) (λ_ _=>rfl),hid hU.out.2.1,hbz.out⟩
 have qy:=hid hl;have zq:¬(0:Int)<pq:=by have:=jh.out;omega
 clear hl;by_cases hf:(S.fence x0).ok=true
 ·have bg:RB=S.zbu (S.fence x0) (datL (((s0,z0):Ln)::ts)):=by rw[hspec.out,if_neg ny.out,if_neg (by simp),if_neg qy.out,if_pos hf]
  have hF1:=hF.out;unfold zfi at hF1;rw[if_pos hf] at hF1;obtain⟨⟨_,hk2⟩,rfl,rfl,rfl⟩:=hF1;have hfp:=S.zz6 x0 hf;have hFn:=zst b o cap ((s0,z0):Ln) ts (S.fence x0).mark (S.fence x0).width (S.B (S.fence x0).info) WM dx.out jk hfp.1 (by omega);obtain⟨K,n,inf,tx,sz,hE0,gq⟩:∃K n inf tx sz,BIs RB K n inf tx sz/\Calls prog 96 #[.slice (some ⟨b,o,none⟩) (ts.length+1) cap,.int .u8 ((S.fence x0).mark.toNat:Int),.int .i64 ((S.fence x0).width:Int),.string (S.B (S.fence x0).info)] WM (zw1 C z RB.1 WM K n inf tx sz):=by
   refine⟨RB.1.kind,RB.1.n,S.B RB.1.info,S.B (zc4 RB.1.kind RB.1.text RB.1.loose),(RB.2:Int),⟨λkv ns=>rfl,rfl⟩,hFn.mono ?_⟩;rintro e w2⟨rfl,hb2⟩;refine⟨none,0,0,[],?_,hid ⟨.nil,?_,hb2⟩⟩
   ·rw[bg];unfold S.zbu;rw[zas,hfp.2,jq.out,List.tail_cons,show S.indent ((s0,z0):Ln).1.data.toList=S.indent x0 from by rw[dh.out]];rfl
   ·rw[bg];simp[KidB,S.zbu,S.Blk.mk,S.Blk.kind,S.Blk.kids,MatL]
  have hE:=hid hE0;have hP:=hid gq;have zw:(0:Int)<((S.fence x0).width:Int):=by omega
  clear hE0 gq hFn bg hf hk2 hfp hF;go_wp2_with fail
  refine(hIn.out _).mono ?_;rintro e w'⟨rfl,rfl⟩;go_wp2_with fail
  refine hP.out.mono ?_;rintro e w2⟨ka,kn,kc,ns,rfl,hU⟩;have hx2:=(hU.out.2.2.block w.heap.size dw).trans kg.out;have hw2:w.heap.size<w2.heap.size:=Qh dw hU.out.2.2.size;have d0:w2.cell? ⟨w.heap.size,0,none⟩=some (.int .i64 0):=za0 hx2 0 _ rfl;have d1:w2.cell? ⟨w.heap.size,1,none⟩=some (.int .i64 0):=za0 hx2 1 _ rfl;have d2:w2.cell? ⟨w.heap.size,2,none⟩=some (.int .i64 0):=za0 hx2 2 _ rfl;have d3:w2.cell? ⟨w.heap.size,3,none⟩=some (.string ⟨#[]⟩):=za0 hx2 3 _ rfl;have d4:w2.cell? ⟨w.heap.size,4,none⟩=some (.string ⟨#[]⟩):=za0 hx2 4 _ rfl;have d5:w2.cell? ⟨w.heap.size,5,none⟩=some (.int .i64 0):=za0 hx2 5 _ rfl;have d6:w2.cell? ⟨w.heap.size,6,none⟩=some (.slice none 0 0):=za0 hx2 6 _ rfl;have g0:=za7 hx2;have hzz:=hid (set7 hx2 (.int .i64 0) (.int .i64 K) (.int .i64 n) (.string inf) (.string tx) (.int .i64 0) (.slice ka kn kc));have hbw2:Below w.heap.size w w2:=mh.out.trans (hU.out.2.2.mono (Nat.le_of_lt dw));have hbz:=hid (zbb (N:=w.heap.size) hbw2 (Qc _) (.int .i64 0) (.int .i64 K) (.int .i64 n) (.string inf) (.string tx) (.int .i64 0) (.slice ka kn kc));have hrz:=hid (zcw hU.out.1 (N:=w.heap.size) (λx hx e=>by have:=hx.1;omega) (.int .i64 0) (.int .i64 K) (.int .i64 n) (.string inf) (.string tx) (.int .i64 0) (.slice ka kn kc));clear hx2 hbw2;go_wp2;refine bodyPost_ret (v:=.tuple #[.agg #[.int .i64 0,.int .i64 K,.int .i64 n,.string inf,.string tx,.int .i64 0,.slice ka kn kc],.int .i64 sz]) (by have z0:=za0 hzz.out 0 _ rfl;have z1:=za0 hzz.out 1 _ rfl;have z2:=za0 hzz.out 2 _ rfl;have z3:=za0 hzz.out 3 _ rfl;have z4:=za0 hzz.out 4 _ rfl;have z5:=za0 hzz.out 5 _ rfl;have z6:=za0 hzz.out 6 _ rfl;simp[results,results68,go_sem,z0,z1,z2,z3,z4,z5,z6]) rfl ?_;exact⟨.slice ka kn kc,ns,by rw[hE.out.1,hE.out.2],hrz.out.move (λx hx=>⟨by have:=hx.1;omega,by rw[zho];exact hx.2⟩) (λ_ _=>rfl),hid hU.out.2.1,hbz.out⟩
 have wh:=hid hf;have zl:fk=0:=by have:=hF.out.2;rw[if_neg hf] at this;exact this
 subst zl;clear hf;cases q
 case true=>
  have bg:RB=(.mk 5 0 [] [] false (S.za2 d (S.zae (datL (((s0,z0):Ln)::ts)))).1,(S.zae (datL (((s0,z0):Ln)::ts))).length):=by rw[hspec.out,if_neg ny.out,if_neg (by simp),if_neg qy.out,if_neg wh.out,if_pos rfl]
  have yt:=zvv C d zm.out b o cap (((s0,z0):Ln)::ts) z WM dx.out jy.out jk (by rw[jq.out];simp[yc.out]) (by
   rw[jq.out];refine Qh (zmw x0 (datL ts) yc.out) ?_;rw[<-jq.out];exact yg.out)
  obtain⟨K,n,inf,tx,sz,hE0,gq⟩:∃K n inf tx sz,BIs RB K n inf tx sz/\Calls prog 97 #[.slice (some ⟨b,o,none⟩) (ts.length+1) cap] WM (zw1 C z RB.1 WM K n inf tx sz):=by
   refine⟨RB.1.kind,RB.1.n,S.B RB.1.info,S.B (zc4 RB.1.kind RB.1.text RB.1.loose),(RB.2:Int),⟨λkv ns=>rfl,rfl⟩,yt.mono ?_⟩;rintro e w2⟨kv,ns,rfl,hrep,hM,hb2⟩;obtain⟨ka,kn,kc,rfl⟩:=hrep.form;refine⟨ka,kn,kc,ns,?_,hid ⟨hrep,?_,hb2⟩⟩
   ·rw[bg];rfl
   ·rw[bg];unfold KidB;rw[if_neg (by show ¬((5:Int)=1\/(5:Int)=2);omega)];exact hM.out
  have hE:=hid hE0;have hP:=hid gq;clear hE0 gq yt bg;go_wp2_with fail
  refine(hIn.out _).mono ?_;rintro e w'⟨rfl,rfl⟩;go_wp2_with fail
  refine hP.out.mono ?_;rintro e w2⟨ka,kn,kc,ns,rfl,hU⟩;have hx2:=(hU.out.2.2.block w.heap.size dw).trans kg.out;have hw2:w.heap.size<w2.heap.size:=Qh dw hU.out.2.2.size;have d0:w2.cell? ⟨w.heap.size,0,none⟩=some (.int .i64 0):=za0 hx2 0 _ rfl;have d1:w2.cell? ⟨w.heap.size,1,none⟩=some (.int .i64 0):=za0 hx2 1 _ rfl;have d2:w2.cell? ⟨w.heap.size,2,none⟩=some (.int .i64 0):=za0 hx2 2 _ rfl;have d3:w2.cell? ⟨w.heap.size,3,none⟩=some (.string ⟨#[]⟩):=za0 hx2 3 _ rfl;have d4:w2.cell? ⟨w.heap.size,4,none⟩=some (.string ⟨#[]⟩):=za0 hx2 4 _ rfl;have d5:w2.cell? ⟨w.heap.size,5,none⟩=some (.int .i64 0):=za0 hx2 5 _ rfl;have d6:w2.cell? ⟨w.heap.size,6,none⟩=some (.slice none 0 0):=za0 hx2 6 _ rfl;have g0:=za7 hx2;have hzz:=hid (set7 hx2 (.int .i64 0) (.int .i64 K) (.int .i64 n) (.string inf) (.string tx) (.int .i64 0) (.slice ka kn kc));have hbw2:Below w.heap.size w w2:=mh.out.trans (hU.out.2.2.mono (Nat.le_of_lt dw));have hbz:=hid (zbb (N:=w.heap.size) hbw2 (Qc _) (.int .i64 0) (.int .i64 K) (.int .i64 n) (.string inf) (.string tx) (.int .i64 0) (.slice ka kn kc));have hrz:=hid (zcw hU.out.1 (N:=w.heap.size) (λx hx e=>by have:=hx.1;omega) (.int .i64 0) (.int .i64 K) (.int .i64 n) (.string inf) (.string tx) (.int .i64 0) (.slice ka kn kc));clear hx2 hbw2;go_wp2;refine bodyPost_ret (v:=.tuple #[.agg #[.int .i64 0,.int .i64 K,.int .i64 n,.string inf,.string tx,.int .i64 0,.slice ka kn kc],.int .i64 sz]) (by have z0:=za0 hzz.out 0 _ rfl;have z1:=za0 hzz.out 1 _ rfl;have z2:=za0 hzz.out 2 _ rfl;have z3:=za0 hzz.out 3 _ rfl;have z4:=za0 hzz.out 4 _ rfl;have z5:=za0 hzz.out 5 _ rfl;have z6:=za0 hzz.out 6 _ rfl;simp[results,results68,go_sem,z0,z1,z2,z3,z4,z5,z6]) rfl ?_;exact⟨.slice ka kn kc,ns,by rw[hE.out.1,hE.out.2],hrz.out.move (λx hx=>⟨by have:=hx.1;omega,by rw[zho];exact hx.2⟩) (λ_ _=>rfl),hid hU.out.2.1,hbz.out⟩
 cases vk
 case true=>
  have bg:RB=S.zbh (S.za2 d) (S.item x0) (datL (((s0,z0):Ln)::ts)):=by rw[hspec.out,if_neg ny.out,if_neg (by simp),if_neg qy.out,if_neg wh.out,if_neg (by simp),if_pos fq.out]
  obtain⟨rfl,rfl,rfl,rfl⟩:=hIs.out fq.out;have yw:=zn.out b o cap ((s0,z0):Ln) ts z WM (S.item x0) hcap jk dx.out jy.out (by rw[dh.out]) fq.out yg.out;obtain⟨K,n,inf,tx,sz,hE0,gq⟩:∃K n inf tx sz,BIs RB K n inf tx sz/\Calls prog 98 #[.slice (some ⟨b,o,none⟩) (ts.length+1) cap,.agg #[.int .u8 ((S.item x0).kind.toNat:Int),.int .i64 (S.item x0).number,.bool (S.item x0).empty,.int .i64 ((S.item x0).zaa:Int)]] WM (zw1 C z RB.1 WM K n inf tx sz):=by
   refine⟨RB.1.kind,RB.1.n,S.B RB.1.info,S.B (zc4 RB.1.kind RB.1.text RB.1.loose),(RB.2:Int),⟨λkv ns=>rfl,rfl⟩,yw.mono ?_⟩;rintro e w2⟨kv,ns,rfl,hrep,hM,hb2⟩;obtain⟨ka,kn,kc,rfl⟩:=hrep.form;refine⟨ka,kn,kc,ns,?_,hid ⟨hrep,?_,hb2⟩⟩
   ·rw[bg];rfl
   ·rw[bg];unfold KidB;rw[if_neg (by show ¬((6:Int)=1\/(6:Int)=2);omega)];exact hM.out
  have hE:=hid hE0;have hP:=hid gq;clear hE0 gq yw bg hIs;go_wp2_with fail
  refine(hIn.out _).mono ?_;rintro e w'⟨rfl,rfl⟩;go_wp2_with fail
  refine hP.out.mono ?_;rintro e w2⟨ka,kn,kc,ns,rfl,hU⟩;have hx2:=(hU.out.2.2.block w.heap.size dw).trans kg.out;have hw2:w.heap.size<w2.heap.size:=Qh dw hU.out.2.2.size;have d0:w2.cell? ⟨w.heap.size,0,none⟩=some (.int .i64 0):=za0 hx2 0 _ rfl;have d1:w2.cell? ⟨w.heap.size,1,none⟩=some (.int .i64 0):=za0 hx2 1 _ rfl;have d2:w2.cell? ⟨w.heap.size,2,none⟩=some (.int .i64 0):=za0 hx2 2 _ rfl;have d3:w2.cell? ⟨w.heap.size,3,none⟩=some (.string ⟨#[]⟩):=za0 hx2 3 _ rfl;have d4:w2.cell? ⟨w.heap.size,4,none⟩=some (.string ⟨#[]⟩):=za0 hx2 4 _ rfl;have d5:w2.cell? ⟨w.heap.size,5,none⟩=some (.int .i64 0):=za0 hx2 5 _ rfl;have d6:w2.cell? ⟨w.heap.size,6,none⟩=some (.slice none 0 0):=za0 hx2 6 _ rfl;have g0:=za7 hx2;have hzz:=hid (set7 hx2 (.int .i64 0) (.int .i64 K) (.int .i64 n) (.string inf) (.string tx) (.int .i64 0) (.slice ka kn kc));have hbw2:Below w.heap.size w w2:=mh.out.trans (hU.out.2.2.mono (Nat.le_of_lt dw));have hbz:=hid (zbb (N:=w.heap.size) hbw2 (Qc _) (.int .i64 0) (.int .i64 K) (.int .i64 n) (.string inf) (.string tx) (.int .i64 0) (.slice ka kn kc));have hrz:=hid (zcw hU.out.1 (N:=w.heap.size) (λx hx e=>by have:=hx.1;omega) (.int .i64 0) (.int .i64 K) (.int .i64 n) (.string inf) (.string tx) (.int .i64 0) (.slice ka kn kc));clear hx2 hbw2;go_wp2;refine bodyPost_ret (v:=.tuple #[.agg #[.int .i64 0,.int .i64 K,.int .i64 n,.string inf,.string tx,.int .i64 0,.slice ka kn kc],.int .i64 sz]) (by have z0:=za0 hzz.out 0 _ rfl;have z1:=za0 hzz.out 1 _ rfl;have z2:=za0 hzz.out 2 _ rfl;have z3:=za0 hzz.out 3 _ rfl;have z4:=za0 hzz.out 4 _ rfl;have z5:=za0 hzz.out 5 _ rfl;have z6:=za0 hzz.out 6 _ rfl;simp[results,results68,go_sem,z0,z1,z2,z3,z4,z5,z6]) rfl ?_;exact⟨.slice ka kn kc,ns,by rw[hE.out.1,hE.out.2],hrz.out.move (λx hx=>⟨by have:=hx.1;omega,by rw[zho];exact hx.2⟩) (λ_ _=>rfl),hid hU.out.2.1,hbz.out⟩
 have bg:RB=S.za8 (datL (((s0,z0):Ln)::ts)):=by rw[hspec.out,if_neg ny.out,if_neg (by simp),if_neg qy.out,if_neg wh.out,if_neg (by simp),if_neg (by rw[fq.out];simp)]
 have hPa:=znb C yj.out b o cap ((s0,z0):Ln) ts WM dx.out jk;obtain⟨K,n,inf,tx,sz,hE0,gq⟩:∃K n inf tx sz,BIs RB K n inf tx sz/\Calls prog 99 #[.slice (some ⟨b,o,none⟩) (ts.length+1) cap] WM (zw1 C z RB.1 WM K n inf tx sz):=by
  rw[<-bg] at hPa;have hk:RB.1.kind=1\/RB.1.kind=2:=by rw[bg];unfold S.za8;dsimp only;split<;>(try split)<;>simp[S.Blk.kind]
  have hi9:RB.1.info=[]:=by rw[bg];unfold S.za8;dsimp only;split<;>(try split)<;>simp[S.Blk.info]
  refine⟨RB.1.kind,RB.1.n,S.B RB.1.info,S.B (zc4 RB.1.kind RB.1.text RB.1.loose),(RB.2:Int),⟨λkv ns=>rfl,rfl⟩,hPa.mono ?_⟩;rintro e w2⟨kv,ns,rfl,hrep,hM,hb2⟩;obtain⟨ka,kn,kc,rfl⟩:=hrep.form;refine⟨ka,kn,kc,ns,?_,hid ⟨hrep,?_,hb2⟩⟩
  ·have ht:zc4 RB.1.kind RB.1.text RB.1.loose=[]:=by unfold zc4;rw[if_neg (by omega),if_neg (by omega)]
   show _=Ending.returned (.tuple #[.agg #[.int .i64 0,.int .i64 RB.1.kind,.int .i64 RB.1.n,.string (S.B RB.1.info),.string (S.B (zc4 RB.1.kind RB.1.text RB.1.loose)),.int .i64 0,.slice ka kn kc],.int .i64 (RB.2:Int)]);rw[ht,hi9];rfl
  ·unfold KidB;rw[if_pos hk];exact hM.out
 have hE:=hid hE0;have hP:=hid gq;clear hE0 gq hPa bg;go_wp2_with fail
 refine(hIn.out _).mono ?_;rintro e w'⟨rfl,rfl⟩;go_wp2_with fail
 refine hP.out.mono ?_;rintro e w2⟨ka,kn,kc,ns,rfl,hU⟩;have hx2:=(hU.out.2.2.block w.heap.size dw).trans kg.out;have hw2:w.heap.size<w2.heap.size:=Qh dw hU.out.2.2.size;have d0:w2.cell? ⟨w.heap.size,0,none⟩=some (.int .i64 0):=za0 hx2 0 _ rfl;have d1:w2.cell? ⟨w.heap.size,1,none⟩=some (.int .i64 0):=za0 hx2 1 _ rfl;have d2:w2.cell? ⟨w.heap.size,2,none⟩=some (.int .i64 0):=za0 hx2 2 _ rfl;have d3:w2.cell? ⟨w.heap.size,3,none⟩=some (.string ⟨#[]⟩):=za0 hx2 3 _ rfl;have d4:w2.cell? ⟨w.heap.size,4,none⟩=some (.string ⟨#[]⟩):=za0 hx2 4 _ rfl;have d5:w2.cell? ⟨w.heap.size,5,none⟩=some (.int .i64 0):=za0 hx2 5 _ rfl;have d6:w2.cell? ⟨w.heap.size,6,none⟩=some (.slice none 0 0):=za0 hx2 6 _ rfl;have g0:=za7 hx2;have hzz:=hid (set7 hx2 (.int .i64 0) (.int .i64 K) (.int .i64 n) (.string inf) (.string tx) (.int .i64 0) (.slice ka kn kc));have hbw2:Below w.heap.size w w2:=mh.out.trans (hU.out.2.2.mono (Nat.le_of_lt dw));have hbz:=hid (zbb (N:=w.heap.size) hbw2 (Qc _) (.int .i64 0) (.int .i64 K) (.int .i64 n) (.string inf) (.string tx) (.int .i64 0) (.slice ka kn kc));have hrz:=hid (zcw hU.out.1 (N:=w.heap.size) (λx hx e=>by have:=hx.1;omega) (.int .i64 0) (.int .i64 K) (.int .i64 n) (.string inf) (.string tx) (.int .i64 0) (.slice ka kn kc));clear hx2 hbw2;go_wp2;refine bodyPost_ret (v:=.tuple #[.agg #[.int .i64 0,.int .i64 K,.int .i64 n,.string inf,.string tx,.int .i64 0,.slice ka kn kc],.int .i64 sz]) (by have z0:=za0 hzz.out 0 _ rfl;have z1:=za0 hzz.out 1 _ rfl;have z2:=za0 hzz.out 2 _ rfl;have z3:=za0 hzz.out 3 _ rfl;have z4:=za0 hzz.out 4 _ rfl;have z5:=za0 hzz.out 5 _ rfl;have z6:=za0 hzz.out 6 _ rfl;simp[results,results68,go_sem,z0,z1,z2,z3,z4,z5,z6]) rfl ?_;exact⟨.slice ka kn kc,ns,by rw[hE.out.1,hE.out.2],hrz.out.move (λx hx=>⟨by have:=hx.1;omega,by rw[zho];exact hx.2⟩) (λ_ _=>rfl),hid hU.out.2.1,hbz.out⟩
def zoj (d:Nat)(row:List (List UInt8))(k:Nat)(bs0:List S.Blk)(g:Bool):Prop:=k<=row.length/\∃f,row.length-k<=f /\
 S.za2 (d+1) row=(bs0++(S.rowFrom (S.za2 d) row.length f (row.drop (k+S.za6 (row.drop k)))).1,(g||(decide (0<S.za6 (row.drop k))&&!bs0.isEmpty&&!(row.drop (k+S.za6 (row.drop k))).isEmpty))||(S.rowFrom (S.za2 d) row.length f (row.drop (k+S.za6 (row.drop k)))).2)
theorem zoj.start (d:Nat)(row:List (List UInt8)):zoj d row 0 [] false:=by
 refine⟨Qt _,row.length,by omega,?_⟩;rw[List.drop_zero,Nat.zero_add];simp only[S.za2,List.nil_append,List.isEmpty_nil,Bool.not_true,Bool.and_false,Bool.false_and,Bool.or_false,Bool.false_or]
theorem zee (sub:List (List UInt8)->List S.Blk × Bool)(Z f:Nat):S.rowFrom sub Z f []=([],false):=by
 cases f<;>simp[S.rowFrom]
theorem zoj.last {d:Nat}{row:List (List UInt8)}{k:Nat}{bs0:List S.Blk}{g:Bool}(h:zoj d row k bs0 g)(he:row.length<=k+S.za6 (row.drop k)):S.za2 (d+1) row=(bs0,g):=by
 obtain⟨_,f,_,h⟩:=h;rw[Qw he,zee] at h;simpa using h
theorem zoj.step {d:Nat}{row:List (List UInt8)}{k:Nat}{bs0:List S.Blk}{g:Bool}(h:zoj d row k bs0 g){c:Nat}(hc:S.za6 (row.drop k)=c)(hlt:k+c<row.length){b:S.Blk}{z:Nat}(hb:S.zaf (S.za2 d) (row.drop (k+c))=(b,z))(hz1:1<=z)(hz2:k+c+z<=row.length):zoj d row (k+c+z) (bs0++[b.put ((k+c:Nat):Int)]) (g||(decide (0<c)&&!bs0.isEmpty)):=by
 obtain⟨_,f,hf,h⟩:=h;rw[hc] at h;obtain⟨f,rfl⟩:∃f',f=f' + 1:=⟨f-1,by omega⟩;refine⟨hz2,f,by omega,?_⟩;have hne:¬row.drop (k+c)=[]:=by
  intro e;have:=congrArg List.length e;rw[Qf,Qi] at this;omega
 have hem:(row.drop (k+c)).isEmpty=false:=by
  cases hh:row.drop (k+c) with
  | nil=>exact absurd hh hne
  | cons _ _=>rfl
 rw[h,hem];simp only[S.rowFrom];rw[if_neg hne,hb];dsimp only;rw[Qbb,Qbb,Qf];have e1:row.length-(row.length-(k+c))=k+c:=by omega
 have e2:k+c+(z+S.za6 (row.drop (k+c+z)))=k+c+z+S.za6 (row.drop (k+c+z)):=by omega
 have hb2:(bs0++[b.put ((k+c:Nat):Int)]).isEmpty=false:=by cases bs0<;>rfl
 rw[e1,e2,hb2];refine Prod.ext ?_ ?_
 ·simp
 ·simp only[Bool.not_false,Bool.and_true,Bool.or_assoc]
theorem Tryz.zmf:(prog.info? 118).map (λi=>(i.zero,i.size,i.bytes))=some (some (.agg #[.int .i64 0,.int .i64 0,.int .i64 0,.string ⟨#[]⟩,.string ⟨#[]⟩,.int .i64 0,.slice none 0 0]),7,88):=by kernel_rfl
def zca (ps:List (Rn × Value)):List Value:=(ps.map (λp=>rn7 p.1 p.2)).flatten
theorem zkg (ps:List (Rn × Value))(p:Rn × Value):zca (ps++[p])=zca ps++rn7 p.1 p.2:=by simp[zca]
theorem zsd (ps:List (Rn × Value))(i j:Nat)(p:Rn × Value)(h:ps[i]?=some p)(hj:j<7):(zca ps)[7*i+j]?=(rn7 p.1 p.2)[j]?:=by
 induction ps generalizing i with
 | nil=>simp at h
 | cons q r ih=>
  have hl:(rn7 q.1 q.2).length=7:=rfl;cases i with
  | zero=>
   simp at h;subst h;show (rn7 q.1 q.2++zca r)[7*0+j]?=_;rw[Qbd (by rw[hl];omega)];simp
  | succ i=>
   have:=ih i (by simpa using h);show (rn7 q.1 q.2++zca r)[7*(i+1)+j]?=_;rw[Qu (by rw[hl];omega),hl,<-this];congr 1;omega
theorem zgp {w:World}{B:Nat}{v:Value}{ps:List (Rn × Value)}{A:Nat->Prop}(h:w.ownsRow B 118 7 v ps.length (zca ps))(hA:∀g,v.ownBlock=some g->A g)
  (hk:∀(i:Nat) (p:Rn × Value),ps[i]?=some p->RepN w A p.2 p.1.kids):RepN w A v (ps.map Prod.fst):=by
 rcases h.2 with ⟨h1,h2⟩|⟨g,cap,cur,h1,h2,h3,h4,h5,h6,h7⟩
 ·have:ps=[]:=List.eq_nil_of_length_eq_zero h2;subst this;rw[h1];exact .nil
 ·subst h1;have hc:∀i j p u,ps[i]?=some p->j<7->(rn7 p.1 p.2)[j]?=some u->w.cell? ⟨g,0+i*7+j,none⟩=some u:=by
   intro i j p u hi hj hu;have hx:=zsd ps i j p hi hj;rw[hu] at hx;have:=h.cells (g:=g) rfl (7*i+j) u hx;have ha:(⟨g,0,none⟩:Addr).add (7*i+j)=⟨g,0+i*7+j,none⟩:=by
    simp only[Addr.add];split
    ·rename_i h;simp<;>omega
    ·simp<;>omega
   rw[<-ha];exact this
  have hlen:(ps.map Prod.fst).length=ps.length:=by simp
  rw[<-hlen];refine .some g 0 cap (ps.map Prod.fst) (λi=>(ps[i]?.map (λp=>p.2)).getD .nilIface) (hA g rfl) (by rw[hlen];exact h4) ?_ ?_
  ·intro i t hi j u hu;rw[List.getElem?_map] at hi;cases hp:ps[i]? with
   | none=>rw[hp] at hi;simp at hi
   | some p=>
    rw[hp] at hi;simp at hi;subst hi;have hj:j<7:=(Qb.1 hu).1;exact hc i j p u hp hj (by rw[hp] at hu;simpa using hu)
  ·intro i t hi;rw[List.getElem?_map] at hi;cases hp:ps[i]? with
   | none=>rw[hp] at hi;simp at hi
   | some p=>
    rw[hp] at hi;simp at hi;subst hi;have:=hk i p hp;simpa [hp] using this
structure NRel (B:Nat)(w:World)(ps:List (Rn × Value))(v:Value)(wr:World):Prop where
 own:wr.ownsRow B 118 7 v ps.length (zca ps)
 kids:∀(i:Nat) (p:Rn × Value),ps[i]?=some p->RepN wr (λx=>B<=x/\x<wr.heap.size/\some x≠v.ownBlock) p.2 p.1.kids
 below:Below B w wr
theorem NRel.start (B:Nat)(w:World):NRel B w [] (.slice none 0 0) w:=⟨World.ownsRow_nil _ _ _ _,λi p h=>by simp at h,Below.refl _ _⟩
theorem NRel.step {B:Nat}{w wr w1 w2 wX:World}{g cap1:Nat}{ps:List (Rn × Value)}{v kv:Value}{t:Rn}
  (h:NRel B w ps v wr) (hB:B<=wr.heap.size) (hb1:Below wr.heap.size wr w1) (hrep:RepN w1 (λx=>wr.heap.size<=x/\x<w1.heap.size) kv t.kids)
  (hown3:w2.ownsRow B 118 7 (.slice (some ⟨g,0,none⟩) (ps.length+1) cap1) (ps.length+1) (zca ps++rn7 t kv)) (hbX:Below w1.heap.size w1 wX) (hgrow:wX.grownBy w2 v.ownBlock)
  (hat:v.ownBlock=some g\/w1.heap.size<=g):NRel B w (ps++[(t,kv)]) (.slice (some ⟨g,0,none⟩) (ps++[(t,kv)]).length cap1) w2:=by
 have hlt:=h.own.lt;have hs1:=hb1.size;have bg:=hbX.size;have hs2:=hgrow.size;have hblk:∀x,x<w1.heap.size->some x≠v.ownBlock->w2.heap[x]?=w1.heap[x]?:=by
  intro x hx hne;rw[hgrow.block x (by omega) hne,hbX.block x hx]
 refine⟨by rw[zkg,Qa];exact hown3,?_,?_⟩
 ·intro i p hi;show RepN w2 (λx=>B<=x/\x<w2.heap.size/\some x≠some g) p.2 p.1.kids;by_cases hil:i<ps.length
  ·rw[Qbd hil] at hi;refine(h.kids i p hi).move ?_ ?_
   ·intro x hx;refine⟨hx.1,by omega,?_⟩;rcases hat with hat|hat
    ·rw[<-hat];exact hx.2.2
    ·intro e;cases e;omega
   ·intro x hx;rw[hblk x (by omega) hx.2.2,hb1.block x hx.2.1]
  ·rw[Qu (by omega)] at hi;have hi0:i-ps.length=0:=by have:=(Qb.1 hi).1;simp at this;omega
   rw[hi0] at hi;simp at hi;subst hi;refine hrep.move ?_ ?_
   ·intro x hx;refine⟨by omega,by omega,?_⟩;intro e;rcases hat with hat|hat
    ·have:=hlt g hat;cases e;omega
    ·cases e;omega
   ·intro x hx;refine hblk x hx.2 (λe=>?_);have:=hlt x e.symm;omega
 ·refine Below.grown ((h.below.trans (hb1.mono hB)).trans (hbX.mono (by omega))) hgrow (by omega) (λq hq=>(hlt q hq).1)
end Go.Proofs.YtlojgpkajkedeaaGreatDoor
