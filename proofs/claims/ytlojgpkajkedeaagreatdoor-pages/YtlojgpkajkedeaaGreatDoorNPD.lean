import Derived.Test.YtlojgpkajkedeaaGreatDoorNE24
import Derived.Test.YtlojgpkajkedeaaGreatDoorNPB
import Derived.Test.YtlojgpkajkedeaaGreatDoorNShelfI
import Derived.Deep.LoopGhost
import Derived.Lib.ItoaLen
import Derived.Lib.LaidTab
import Derived.Lib.AppendIntMem
set_option maxHeartbeats 16000000
set_option maxRecDepth 100000
namespace Go.Proofs.YtlojgpkajkedeaaGreatDoor
open Go.RowKit Go.Proofs.Tryz
theorem zfo {T:TypeId}{B b:Nat}{bs:List Value}{w:World}(h:Lib.IsBuilderF T 5 B b bs w):∃cs,w.heap[b]?=some (.cells cs T (0,0)):=by
 rcases h with ⟨_,v,hb,_⟩|⟨_,v,hb,_⟩
 ·exact⟨_,hb⟩
 ·exact⟨_,hb⟩
theorem zl5 {w w':World}{b x T T2:Nat}{cs cs2:Array Value}(hk:Lib.OthersKept 5 (some b) w w')(hb:w.heap[b]?=some (.cells cs T (0,0)))(hx:w.heap[x]?=some (.cells cs2 T2 (0,0)))(hT:T2≠T)(h5:T2≠5):w'.heap[x]?=some (.cells cs2 T2 (0,0)):=by
 refine hk x _ hx (λe=>?_) (λc fz e=>?_)
 ·have:x=b:=by simpa using e
  subst this;rw[hx] at hb;simp only[Option.some.injEq,Obj.cells.injEq] at hb;exact hT hb.2.1
 ·simp only[Obj.cells.injEq] at e;exact h5 e.2.1
theorem KRep.kept {w w':World}{A:Nat->Prop}{a:Option Addr}{ps:List Pt}(h:KRep w A a ps){b T:Nat}{cs:Array Value}(hk:Lib.OthersKept 5 (some b) w w')(hb:w.heap[b]?=some (.cells cs T (0,0)))(hT:179≠T):KRep w' A a ps:=by
 induction h with
 | nil=>exact .nil
 | cons e ah be r ha hm hkk hr ih1 ih2=>exact .cons e ah be r ha (zl5 hk hb hm hT (by decide)) ih1 ih2
theorem KRep.alloc {w:World}{A:Nat->Prop}{a:Option Addr}{ps:List Pt}(h:KRep w A a ps)(o:Obj):KRep (w.alloc o) A a ps:=by
 induction h with
 | nil=>exact .nil
 | cons e ah be r ha hm hkk hr ih1 ih2=>exact .cons e ah be r ha ((Below.heap_alloc w o e.m (Qq.1 hm).1).trans hm) ih1 ih2
theorem zw3 {T:TypeId}{B b:Nat}{bs:List Value}{w:World}(h:Lib.IsBuilderF T 5 B b bs w)(o:Obj):Lib.IsBuilderF T 5 B b bs (w.alloc o):=by
 rcases h with h|h
 ·exact .inl (h.alloc o)
 ·exact .inr (h.alloc o)
theorem Wrote.zfr {T:TypeId}{B b:Nat}{l:List UInt8}{w w1:World}(h:Wrote T B b l w w1)(hB:B<=w1.heap.size)(o:Obj):Wrote T B b l w (w1.alloc o):=⟨zw3 h.1 o,h.2.1.alloc hB o,h.2.2.alloc o⟩
def z2m (ps:List Pt):Prop:=∀(B b:Nat) (A:Nat->Prop) (kf kl:Option Addr) (l:List UInt8) (w:World),Lib.IsBuilderF 104 5 B b (Lib.byteCells l) w->B<=w.heap.size->l.length+wgL ps<=1000000000->KRep w A kf ps ->
 Calls prog 105 #[.pointer (some ⟨b,0,none⟩),.agg #[.pointer kf,.pointer kl]] w λe w'=>e=.returned (.tuple #[])/\Wrote 104 B b (l++zcr ps) w w'
theorem z5j (B b:Nat)(l:List UInt8)(s:ByteArray)(w:World)(h:Lib.IsBuilderF 104 5 B b (Lib.byteCells l) w)(hlen:l.length+s.size<=1000000000)(hBw:B<=w.heap.size):Calls prog 60 #[.pointer (some ⟨b,0,none⟩),.string s] w λe w'=>e=.returned (.tuple #[.int .i64 s.size,.nilIface])/\Wrote 104 B b (l++s.data.toList) w w':=by
 refine(Tryz.zfh B b _ s w h (by rw[Lib.byteCells_length];omega) hBw).mono ?_;rintro e w'⟨h1,h2,h3,h4⟩;rw[Lib.strCells_eq,<-Lib.byteCells_append] at h2;exact⟨h1,.inr h2,h3,h4⟩
theorem z3i (B b:Nat)(l:List UInt8)(c:UInt8)(w:World)(h:Lib.IsBuilderF 104 5 B b (Lib.byteCells l) w)(hlen:l.length+1<=1000000000)(hBw:B<=w.heap.size):Calls prog 151 #[.pointer (some ⟨b,0,none⟩),.int .u8 (c.toNat:Int)] w λe w'=>e=.returned .nilIface/\Wrote 104 B b (l++[c]) w w':=by
 refine(Tryz.zhd B b _ (c.toNat:Int) w h (by rw[Lib.byteCells_length];omega) hBw).mono ?_;rintro e w'⟨h1,h2,h3,h4⟩;rw[show (Lib.byteCells l++[.int .u8 (c.toNat:Int)])=Lib.byteCells (l++[c]) by rw[Lib.byteCells_append];rfl] at h2;exact⟨h1,.inr h2,h3,h4⟩
theorem zy8 (N:Nat):∀(ps:List Pt),cntL ps<=N->z2m ps:=by
 induction N using Nat.strongRecOn with
 | _ N ih=>
 intro ps hN B b A kf kl l w hbl hB hl hk;have hF:=hid (zir w.heap.size 0 (.pointer kf) (w.alloc (.cells #[.pointer kf,.pointer kl] 135)) (za0 (za1 _ _) 0 _ rfl) ⟨_,rfl⟩);have hstart:Hid (Wrote 104 B b l w (w.alloc (.cells #[.pointer kf,.pointer kl] 135))/\KRep (w.alloc (.cells #[.pointer kf,.pointer kl] 135)) A kf ps):=hid ⟨(Wrote.refl hbl).zfr hB _,hk.alloc _⟩;have jl:=hid ih;have jw:=hid hN;have jq:=hid hl;clear hbl hk ih hN hl;go_enter func105,ntmps105;go_wp2_with fail
 refine hF.out.mono ?_;rintro e w'⟨rfl,rfl⟩;go_wp2;go_loopg [4,5] ps.length (λk s4 _ wr=>∃(dn rs:List Pt) (v:Option Addr),s4=.pointer v/\Hid (ps=dn++rs/\rs.length=k/\Wrote 104 B b (l++zcr dn) w wr/\KRep wr A v rs))
 case atStart=>
  refine⟨[],ps,kf,rfl,hid ⟨rfl,rfl,?_,hstart.out.2⟩⟩;simpa [zcr] using hstart.out.1
 case round=>
  obtain⟨dn,rs,v,rfl,hrel'⟩:=hrel;obtain⟨hps,jk,hW,hkr⟩:=hrel'.out;clear hrel';have hBr:B<=wr.heap.size:=Qj hB hW.2.1.size;cases hkr with
  | nil=>
   have hfin:Hid (Wrote 104 B b (l++zcr ps) w wr):=hid (by
    rw[Qbk] at hps;subst hps;exact hW)
   clear hps jk hW;go_wp2;go_end0;exact⟨rfl,hfin.out⟩
  | cons e ah be r ha hb hke hr=>
   obtain⟨kd,hkd⟩:∃x,e.p.kind=x:=⟨_,rfl⟩;obtain⟨inf,jg⟩:∃x,S.B e.p.info=x:=⟨_,rfl⟩;obtain⟨tx,htx⟩:∃x,S.B e.p.text=x:=⟨_,rfl⟩;obtain⟨m,hm⟩:∃m,e.m=m:=⟨_,rfl⟩;obtain⟨gy,dx⟩:∃x,e.kf=x:=⟨_,rfl⟩;obtain⟨gq,jd⟩:∃x,e.kl=x:=⟨_,rfl⟩;obtain⟨rz,hrz⟩:∃x:Int,(e.p.rs:Int)=x:=⟨_,rfl⟩;obtain⟨ro,hro⟩:∃x,e.p.ro=x:=⟨_,rfl⟩;obtain⟨rc,hrc⟩:∃x,e.p.rc=x:=⟨_,rfl⟩;have hcs:zcz e ah be=[.int .i64 kd,.string inf,.string tx,.pointer gy,.pointer gq,.int .i64 rz,.bool ro,.bool rc,.pointer ah,.pointer be]:=by
    unfold zcz;rw[hkd,jg,htx,dx,jd,hrz,hro,hrc]
   rw[hcs,hm] at hb;have p0:wr.cell? ⟨m,0,none⟩=some (.int .i64 kd):=za0 hb 0 _ rfl;have p1:wr.cell? ⟨m,1,none⟩=some (.string inf):=za0 hb 1 _ rfl;have p2:wr.cell? ⟨m,2,none⟩=some (.string tx):=za0 hb 2 _ rfl;have p3:wr.cell? ⟨m,3,none⟩=some (.pointer gy):=za0 hb 3 _ rfl;have p4:wr.cell? ⟨m,4,none⟩=some (.pointer gq):=za0 hb 4 _ rfl;have p5:wr.cell? ⟨m,5,none⟩=some (.int .i64 rz):=za0 hb 5 _ rfl;have p6:wr.cell? ⟨m,6,none⟩=some (.bool ro):=za0 hb 6 _ rfl;have p7:wr.cell? ⟨m,7,none⟩=some (.bool rc):=za0 hb 7 _ rfl;have hv:(some e.ad:Option Addr)=some ⟨m,0,none⟩:=by rw[Mem.ad,hm]
   obtain⟨X,hX⟩:=Qzz (Obj.cells #[.int .i64 kd,.string inf,.string tx,.pointer gy,.pointer gq,.int .i64 rz,.bool ro,.bool rc] 177);have fq:=hW.zfr hBr X;have hwp:wgL ps=wgL dn+wgP e.p+wgL r:=by rw[hps,zd2,zbs];omega
   have hdl:=zj3 dn;have jm:=zpr e.p;have hl0:=jq.out;have hcK:cntL e.p.kids<N:=by
    have:=jw.out;rw[hps,zmq,zlk,zy9] at this;omega
   -- what each way writes,and what follows
   have hstep:Hid (∀w2,Wrote 104 B b ((l++zcr dn)++ptPl e.p) (wr.alloc X) w2->w2.cell? ⟨m,9,none⟩=some (.pointer be)/\Hid (ps=(dn++[e.p])++r/\r.length=r.length/\Wrote 104 B b (l++zcr (dn++[e.p])) w w2/\KRep w2 A be r)):=hid (λw2 h2=>by
    obtain⟨cs,hbb⟩:=zfo fq.1;have hbX:=(Below.heap_alloc wr X m (Qq.1 hb).1).trans hb;refine⟨za0 (zl5 h2.2.2 hbb hbX (by decide) (by decide)) 9 _ rfl,hid ⟨by rw[hps];simp,rfl,?_,(hr.alloc X).kept h2.2.2 hbb (by decide)⟩⟩;have:=fq.trans h2;rw[zqf,<-Qp];simpa [zcr] using this)
   have hpl:Hid (ptPl e.p=if kd=8\/kd=11 then e.p.text else if kd=9\/kd=10 then [32] else zcr e.p.kids):=hid (by rw[z3o,hkd])
   have hT:Hid (Calls prog 60 #[.pointer (some ⟨b,0,none⟩),.string tx] (wr.alloc X) λe' w'=>e'=.returned (.tuple #[.int .i64 tx.size,.nilIface])/\Wrote 104 B b ((l++zcr dn)++e.p.text) (wr.alloc X) w'):=hid (by
    have:=z5j B b (l++zcr dn) tx (wr.alloc X) fq.1 (by rw[<-htx,S.zav,Qa];omega) (by simp;omega);rw[<-htx,S.zaz] at this;rw[<-htx];exact this)
   have hS:Hid (Calls prog 151 #[.pointer (some ⟨b,0,none⟩),.int .u8 32] (wr.alloc X) λe' w'=>e'=.returned .nilIface/\Wrote 104 B b ((l++zcr dn)++[32]) (wr.alloc X) w'):=hid (z3i B b (l++zcr dn) 32 (wr.alloc X) fq.1 (by rw[Qa];omega) (by simp;omega));have hK:Hid (Calls prog 105 #[.pointer (some ⟨b,0,none⟩),.agg #[.pointer gy,.pointer gq]] (wr.alloc X) λe' w'=>e'=.returned (.tuple #[])/\Wrote 104 B b ((l++zcr dn)++zcr e.p.kids) (wr.alloc X) w'):=hid (jl.out (cntL e.p.kids) hcK e.p.kids (Qc _) B b A gy gq (l++zcr dn) (wr.alloc X) fq.1 (by simp;omega) (by rw[Qa];omega) (by rw[<-dx];exact hke.alloc X));have dh:=hid jk;have jh:=hid hX;clear hps hW hb hke hr hcs hkd jg htx jd hrz hro hrc dx fq hwp hdl jm hl0 jk hX hm;rw[hv];clear hv;rcases Classical.em (kd=8) with h8|h8
   ·subst h8;have hpl':Hid (ptPl e.p=e.p.text):=hid (by rw[hpl.out,if_pos (.inl rfl)]);go_wp2_with (fail);rw[<-jh.out];refine hT.out.mono ?_;rintro e2 w2⟨rfl,h2⟩;obtain⟨bg,hr2⟩:=hstep.out w2 (by rw[hpl'.out];exact h2);have dw:=hid (zdq m (.pointer be) w2 bg ⟨_,rfl⟩);clear h2 bg;go_wp2_with (fail);refine dw.out.mono ?_;rintro e3 w3⟨rfl,rfl⟩;go_wp2;go_roundg r.length
    case rel=>exact⟨dn++[e.p],r,be,rfl,hid ⟨hr2.out.1,rfl,hr2.out.2.2⟩⟩
    case measure=>
     have:=dh.out;simp at this;omega
   rcases Classical.em (kd=11) with h11|h11
   ·subst h11;have hpl':Hid (ptPl e.p=e.p.text):=hid (by rw[hpl.out,if_pos (.inr rfl)]);go_wp2_with (fail);rw[<-jh.out];refine hT.out.mono ?_;rintro e2 w2⟨rfl,h2⟩;obtain⟨bg,hr2⟩:=hstep.out w2 (by rw[hpl'.out];exact h2);have dw:=hid (zdq m (.pointer be) w2 bg ⟨_,rfl⟩);clear h2 bg;go_wp2_with (fail);refine dw.out.mono ?_;rintro e3 w3⟨rfl,rfl⟩;go_wp2;go_roundg r.length
    case rel=>exact⟨dn++[e.p],r,be,rfl,hid ⟨hr2.out.1,rfl,hr2.out.2.2⟩⟩
    case measure=>
     have:=dh.out;simp at this;omega
   rcases Classical.em (kd=9) with h9|h9
   ·subst h9;have hpl':Hid (ptPl e.p=[32]):=hid (by rw[hpl.out,if_neg (by decide),if_pos (.inl rfl)]);go_wp2_with (fail);rw[<-jh.out];refine hS.out.mono ?_;rintro e2 w2⟨rfl,h2⟩;obtain⟨bg,hr2⟩:=hstep.out w2 (by rw[hpl'.out];exact h2);have dw:=hid (zdq m (.pointer be) w2 bg ⟨_,rfl⟩);clear h2 bg;go_wp2_with (fail);refine dw.out.mono ?_;rintro e3 w3⟨rfl,rfl⟩;go_wp2;go_roundg r.length
    case rel=>exact⟨dn++[e.p],r,be,rfl,hid ⟨hr2.out.1,rfl,hr2.out.2.2⟩⟩
    case measure=>
     have:=dh.out;simp at this;omega
   rcases Classical.em (kd=10) with h10|h10
   ·subst h10;have hpl':Hid (ptPl e.p=[32]):=hid (by rw[hpl.out,if_neg (by decide),if_pos (.inr rfl)]);go_wp2_with (fail);rw[<-jh.out];refine hS.out.mono ?_;rintro e2 w2⟨rfl,h2⟩;obtain⟨bg,hr2⟩:=hstep.out w2 (by rw[hpl'.out];exact h2);have dw:=hid (zdq m (.pointer be) w2 bg ⟨_,rfl⟩);clear h2 bg;go_wp2_with (fail);refine dw.out.mono ?_;rintro e3 w3⟨rfl,rfl⟩;go_wp2;go_roundg r.length
    case rel=>exact⟨dn++[e.p],r,be,rfl,hid ⟨hr2.out.1,rfl,hr2.out.2.2⟩⟩
    case measure=>
     have:=dh.out;simp at this;omega
   ·have hpl':Hid (ptPl e.p=zcr e.p.kids):=hid (by rw[hpl.out,if_neg (λh=>h.elim h8 h11),if_neg (λh=>h.elim h9 h10)]);have e8:(kd == 8)=false:=(by rw[Qe];exact h8);have e11:(kd == 11)=false:=(by rw[Qe];exact h11);have e9:(kd == 9)=false:=(by rw[Qe];exact h9);have e10:(kd == 10)=false:=(by rw[Qe];exact h10);clear h8 h11 h9 h10;go_wp2_with (fail);rw[<-jh.out];refine hK.out.mono ?_;rintro e2 w2⟨rfl,h2⟩;obtain⟨bg,hr2⟩:=hstep.out w2 (by rw[hpl'.out];exact h2);have dw:=hid (zdq m (.pointer be) w2 bg ⟨_,rfl⟩);clear h2 bg;go_wp2_with (fail);refine dw.out.mono ?_;rintro e3 w3⟨rfl,rfl⟩;go_wp2;go_roundg r.length
    case rel=>exact⟨dn++[e.p],r,be,rfl,hid ⟨hr2.out.1,rfl,hr2.out.2.2⟩⟩
    case measure=>
     have:=dh.out;simp at this;omega
theorem zlg (ps:List Pt)(A:Nat->Prop)(kf kl:Option Addr)(w:World)(hl:wgL ps<=1000000000)(hk:KRep w A kf ps):Calls prog 79 #[.agg #[.pointer kf,.pointer kl]] w λe w'=>e=.returned (.string (S.B (zcr ps)))/\Below w.heap.size w w':=by
 obtain⟨w2,hw2⟩:=Qzz ((w.alloc (.cells #[.pointer kf,.pointer kl] 135)).alloc (.cells #[.pointer none,.slice none 0 0] 104));have hs1:(w.alloc (.cells #[.pointer kf,.pointer kl] 135)).heap.size=w.heap.size+1:=by simp
 have hbl:=zg3 (w.alloc (.cells #[.pointer kf,.pointer kl] 135));rw[<-hw2,hs1] at hbl;have hk2:KRep w2 A kf ps:=by rw[hw2];exact(hk.alloc _).alloc _
 have hs2:w2.heap.size=w.heap.size+2:=by rw[hw2];simp
 have hbw:Below w.heap.size w w2:=by rw[hw2];exact((Below.refl _ _).alloc (Qc _) _).alloc (by simp) _
 have hP:=hid (zy8 (cntL ps) ps (Qc _) (w.heap.size+1) (w.heap.size+1) A kf kl [] w2 hbl (by omega) (by simpa using hl) hk2);have c0:w2.cell? ⟨w.heap.size,0,none⟩=some (.pointer kf):=by
  have:w2.heap[w.heap.size]?=some (.cells #[.pointer kf,.pointer kl] 135 (0,0)):=by rw[hw2,Below.heap_alloc _ _ _ (by simp)];exact za1 _ _
  exact za0 this 0 _ rfl
 have c1:w2.cell? ⟨w.heap.size,1,none⟩=some (.pointer kl):=by
  have:w2.heap[w.heap.size]?=some (.cells #[.pointer kf,.pointer kl] 135 (0,0)):=by rw[hw2,Below.heap_alloc _ _ _ (by simp)];exact za1 _ _
  exact za0 this 1 _ rfl
 have bg:=hid hw2;have dw:=hid hbw;have dh:=hid hs2;clear hw2 hbl hk hk2 hs1 hbw hs2;go_enter func79,ntmps79;go_wp2_with fail
 rw[<-bg.out];refine hP.out.mono ?_;rintro e w3⟨rfl,h3⟩;have hz3:w.heap.size+1<=w3.heap.size:=by have:=h3.2.1.size;have:=dh.out;omega
 have hSt:=hid (Tryz.zp4 (w.heap.size+1) (w.heap.size+1) _ w3 h3.1 hz3);have fq:=hid h3;clear h3;go_wp2_with fail
 refine hSt.out.mono ?_;rintro e w4⟨rfl,_,h4,_⟩;have dx:=hid h4;clear h4;go_wp2;go_ret;refine⟨rfl,dw.out.trans ((fq.out.2.1.trans dx.out).mono (Nat.le_succ _))⟩
theorem zay (a:Array UInt8):(ByteArray.mk a).size=a.size:=rfl
theorem zw8 {T:TypeId}{B b:Nat}{bs:List Value}{w w':World}(h:Lib.IsBuilderF T 5 B b bs w)(hb:Below w.heap.size w w'):Lib.IsBuilderF T 5 B b bs w':=by
 have key:∀p,Lib.BuilderAtF T 5 B b p bs w->Lib.BuilderAtF T 5 B b p bs w':=by
  rintro p⟨h1,v,h2,h3,h4⟩;refine⟨h1,v,(hb.block b (Qq.1 h2).1).trans h2,h3.kept (Below.zfn hb) ?_,h4⟩;cases hv:v.ownBlock with
  | none=>exact .inl rfl
  | some g=>exact .inr (by simp)
 rcases h with h|h
 ·exact .inl (key _ h)
 ·exact .inr (key _ h)
theorem Wrote.below {T:TypeId}{B b:Nat}{l:List UInt8}{w w1 w2:World}(h:Wrote T B b l w w1)(hb:Below w1.heap.size w1 w2)(hB:B<=w1.heap.size):Wrote T B b l w w2:=
 ⟨zw8 h.1 hb,h.2.1.trans (hb.mono hB),h.2.2.trans (λk _ hk _ _=>(hb.block k (Qq.1 hk).1).trans hk)⟩
theorem Wrote.blk {T:TypeId}{B b:Nat}{l l0:List UInt8}{w w':World}(h:Wrote T B b l w w')(hbl:Lib.IsBuilderF T 5 B b (Lib.byteCells l0) w){x T2:Nat}{cs2:Array Value}(hx:w.heap[x]?=some (.cells cs2 T2 (0,0)))(hT:T2≠T)(h5:T2≠5):w'.heap[x]?=some (.cells cs2 T2 (0,0)):=by
 obtain⟨cs,hb⟩:=zfo hbl;exact zl5 h.2.2 hb hx hT h5
def zrj (ps:List Pt):Prop:=∀(B b:Nat) (A:Nat->Prop) (kf kl:Option Addr) (l:List UInt8) (beg en:ByteArray) (w:World),zi7 B b l w->B<=w.heap.size->l.length+beg.size+30*wgL ps+en.size<=1000000000->KRep w A kf ps ->
 Calls prog 227 #[.pointer (some ⟨b,0,none⟩),.string beg,.agg #[.pointer kf,.pointer kl],.string en] w λe w'=>e=.returned (.tuple #[])/\Wrote 124 B b (l++(beg.data.toList++zdn ps++en.data.toList)) w w'
theorem z1k (p:Pt)(hK:zrj p.kids)(B b:Nat)(A:Nat->Prop)(kf kl:Option Addr)(rz:Int)(ro rc:Bool)(l:List UInt8)(w:World)(hbl:zi7 B b l w)(hB:B<=w.heap.size)(hl:l.length+30*wgP p<=1000000000)(hk:KRep w A kf p.kids):Calls prog 257 #[.pointer (some ⟨b,0,none⟩),.agg #[.int .i64 p.kind,.string (S.B p.info),.string (S.B p.text),.pointer kf,.pointer kl,.int .i64 rz,.bool ro,.bool rc]] w λe w'=>e=.returned (.tuple #[])/\Wrote 124 B b (l++ptHt p) w w':=by
 rw[zpr] at hl;have hht:=hid (z4o p);obtain⟨kd,hkd⟩:∃x,p.kind=x:=⟨_,rfl⟩;rw[hkd] at hht ⊢;obtain⟨inf,jg⟩:∃x,p.info=x:=⟨_,rfl⟩;obtain⟨tx,htx⟩:∃x,p.text=x:=⟨_,rfl⟩;obtain⟨ks,hks⟩:∃x,p.kids=x:=⟨_,rfl⟩;rw[jg,htx,hks] at hht hl;rw[jg,htx];rw[hks] at hK hk;have he1:=S.zc9 inf;have he2:=S.zc9 tx;have vw:=S.zc9 (zcr ks);have vv:=zj3 ks;have vk:=zj4 ks;obtain⟨WX,lq⟩:=Qzz (w.alloc (.cells #[.int .i64 kd,.string (S.B inf),.string (S.B tx),.pointer kf,.pointer kl,.int .i64 rz,.bool ro,.bool rc] 177));have hW0:Wrote 124 B b l w WX:=by rw[lq];exact(Wrote.refl hbl).zfr hB _
 have hX0:WX.heap[w.heap.size]?=some (.cells #[.int .i64 kd,.string (S.B inf),.string (S.B tx),.pointer kf,.pointer kl,.int .i64 rz,.bool ro,.bool rc] 177 (0,0)):=by rw[lq];exact za1 _ _
 have jh:B<=WX.heap.size:=Qj hB hW0.2.1.size;have hkX:KRep WX A kf ks:=by rw[lq];exact hk.alloc _
 have bg:=hid (Wrote.refl hW0.1);have dw:Hid (∀l' w1,Wrote 124 B b l' WX w1->w1.heap[w.heap.size]?=some (.cells #[.int .i64 kd,.string (S.B inf),.string (S.B tx),.pointer kf,.pointer kl,.int .i64 rz,.bool ro,.bool rc] 177 (0,0))):=hid (λl' w1 h=>h.blk hW0.1 hX0 (by decide) (by decide));have jd:Hid (∀(l':List UInt8) (x:ByteArray) (w1:World),Wrote 124 B b l' WX w1->l'.length+x.size<=1000000000->Calls prog 60 #[.pointer (some ⟨b,0,none⟩),.string x] w1 λe w2=>e=.returned (.tuple #[.int .i64 x.size,.nilIface])/\Wrote 124 B b (l' ++ x.data.toList) WX w2):=hid (λl' x w1 h hl'=>(pwrite B b l' x w1 h.1 hl' (Qj jh h.2.1.size)).mono (λe w2 ⟨h1,h2⟩=>⟨h1,h.trans h2⟩));have vg:Hid (∀(l':List UInt8) (x:UInt8) (w1:World),Wrote 124 B b l' WX w1->l'.length+1<=1000000000->Calls prog 151 #[.pointer (some ⟨b,0,none⟩),.int .u8 (x.toNat:Int)] w1 λe w2=>e=.returned .nilIface/\Wrote 124 B b (l' ++ [x]) WX w2):=hid (λl' x w1 h hl'=>(ztk B b l' x w1 h.1 hl' (Qj jh h.2.1.size)).mono (λe w2 ⟨h1,h2⟩=>⟨h1,h.trans h2⟩));have lg:Hid (∀(l' x:List UInt8) (w1:World),Wrote 124 B b l' WX w1->l'.length+6*x.length<=1000000000->Calls prog 195 #[.pointer (some ⟨b,0,none⟩),.string (S.B x)] w1 λe w2=>e=.returned (.tuple #[])/\Wrote 124 B b (l' ++ S.escH x) WX w2):=hid (λl' x w1 h hl'=>by
  have:=zut B b l' (S.B x) w1 h.1 (by rw[S.zav];exact hl') (Qj jh h.2.1.size);rw[S.zaz] at this;exact this.mono (λe w2 ⟨h1,h2⟩=>⟨h1,h.trans h2⟩))
 have ny:Hid (∀(l':List UInt8) (beg en:ByteArray) (w1:World),Wrote 124 B b l' WX w1->l'.length+beg.size+30*wgL ks+en.size<=1000000000->Calls prog 227 #[.pointer (some ⟨b,0,none⟩),.string beg,.agg #[.pointer kf,.pointer kl],.string en] w1 λe w2=>e=.returned (.tuple #[])/\Wrote 124 B b (l' ++ (beg.data.toList++zdn ks++en.data.toList)) WX w2):=hid (λl' beg en w1 h hl'=>by
  obtain⟨cs,hbb⟩:=zfo hW0.1;exact(hK B b A kf kl l' beg en w1 h.1 (Qj jh h.2.1.size) hl' (hkX.kept h.2.2 hbb (by decide))).mono (λe w2 ⟨h1,h2⟩=>⟨h1,h.trans h2⟩))
 have stP:Hid (∀(l':List UInt8) (w1:World),Wrote 124 B b l' WX w1->Calls prog 79 #[.agg #[.pointer kf,.pointer kl]] w1 λe w2=>e=.returned (.string (S.B (zcr ks)))/\Wrote 124 B b l' WX w2):=hid (λl' w1 h=>by
  obtain⟨cs,hbb⟩:=zfo hW0.1;refine(zlg ks A kf kl w1 (by omega) (hkX.kept h.2.2 hbb (by decide))).mono ?_;rintro e w2⟨h1,h2⟩;exact⟨h1,h.below h2 (Qj jh h.2.1.size)⟩)
 have hfin:Hid (∀l' w1,Wrote 124 B b l' WX w1->l'=l++ptHt p->Wrote 124 B b (l++ptHt p) w w1):=hid (λl' w1 h hl'=>by rw[<-hl'];exact hW0.trans h);have dh:=hid lq;have x0:WX.cell? ⟨w.heap.size,0,none⟩=some (.int .i64 kd):=za0 hX0 0 _ rfl;have x1:WX.cell? ⟨w.heap.size,1,none⟩=some (.string (S.B inf)):=za0 hX0 1 _ rfl;have x2:WX.cell? ⟨w.heap.size,2,none⟩=some (.string (S.B tx)):=za0 hX0 2 _ rfl;have x3:WX.cell? ⟨w.heap.size,3,none⟩=some (.pointer kf):=za0 hX0 3 _ rfl;have x4:WX.cell? ⟨w.heap.size,4,none⟩=some (.pointer kl):=za0 hX0 4 _ rfl;clear hbl hkX hk hK hX0 jh hW0 hkd jg htx hks lq;rcases Classical.em (kd=8) with h8|h8
 ·subst h8;have hres:Hid (ptHt p=S.escH tx):=hid (by rw[hht.out];rfl);clear hht;go_enter func257,ntmps257;go_wp2_with fail
  rw[<-dh.out];refine(lg.out _ tx _ bg.out (by(try simp only[Qa,Qd,Qi])<;>omega)).mono ?_
  rintro e1 w1⟨rfl,g1⟩;have y1:=dw.out _ _ g1;have gy:=za0 y1 1 _ rfl;have gq:=za0 y1 2 _ rfl;have fq:=za0 y1 3 _ rfl;have dx:=za0 y1 4 _ rfl;have G1:=hid g1;clear g1 y1;go_wp2;go_end0;exact⟨rfl,hfin.out _ _ G1.out (by rw[hres.out]<;>simp)⟩
 rcases Classical.em (kd=9) with h9|h9
 ·subst h9;have hres:Hid (ptHt p=[10]):=hid (by rw[hht.out];rfl);clear hht;go_enter func257,ntmps257;go_wp2_with fail
  rw[<-dh.out];refine(vg.out _ 10 _ bg.out (by(try simp only[Qa,Qd,Qi])<;>omega)).mono ?_
  rintro e1 w1⟨rfl,g1⟩;have y1:=dw.out _ _ g1;have gy:=za0 y1 1 _ rfl;have gq:=za0 y1 2 _ rfl;have fq:=za0 y1 3 _ rfl;have dx:=za0 y1 4 _ rfl;have G1:=hid g1;clear g1 y1;go_wp2;go_end0;exact⟨rfl,hfin.out _ _ G1.out (by rw[hres.out]<;>simp)⟩
 rcases Classical.em (kd=10) with h10|h10
 ·subst h10;have hres:Hid (ptHt p=[60,98,114,62,10]):=hid (by rw[hht.out];rfl);clear hht;go_enter func257,ntmps257;go_wp2_with fail
  rw[<-dh.out];refine(jd.out _ ⟨#[60,98,114,62,10]⟩ _ bg.out (by(try simp only[zay,Qba,Qd,Qi])<;>omega)).mono ?_
  rintro e1 w1⟨rfl,g1⟩;have y1:=dw.out _ _ g1;have gy:=za0 y1 1 _ rfl;have gq:=za0 y1 2 _ rfl;have fq:=za0 y1 3 _ rfl;have dx:=za0 y1 4 _ rfl;have G1:=hid g1;clear g1 y1;go_wp2;go_end0;exact⟨rfl,hfin.out _ _ G1.out (by rw[hres.out]<;>simp)⟩
 rcases Classical.em (kd=11) with h11|h11
 ·subst h11;have hres:Hid (ptHt p=[60,99,111,100,101,62]++S.escH tx++[60,47,99,111,100,101,62]):=hid (by rw[hht.out];rfl);clear hht;go_enter func257,ntmps257;go_wp2_with fail
  rw[<-dh.out];refine(jd.out _ ⟨#[60,99,111,100,101,62]⟩ _ bg.out (by(try simp only[zay,Qba,Qd,Qi])<;>omega)).mono ?_
  rintro e1 w1⟨rfl,g1⟩;have y1:=dw.out _ _ g1;have gy:=za0 y1 1 _ rfl;have gq:=za0 y1 2 _ rfl;have fq:=za0 y1 3 _ rfl;have dx:=za0 y1 4 _ rfl;have G1:=hid g1;clear g1 y1;go_wp2_with fail
  refine(lg.out _ tx _ G1.out (by(try simp only[Qa,Qd,Qi])<;>omega)).mono ?_
  rintro e2 w2⟨rfl,g2⟩;have y2:=dw.out _ _ g2;have kr:=za0 y2 1 _ rfl;have kg:=za0 y2 2 _ rfl;have jy:=za0 y2 3 _ rfl;have jw:=za0 y2 4 _ rfl;have G2:=hid g2;clear g2 y2;go_wp2_with fail
  refine(jd.out _ ⟨#[60,47,99,111,100,101,62]⟩ _ G2.out (by(try simp only[zay,Qba,Qa,Qd,Qi])<;>omega)).mono ?_
  rintro e3 w3⟨rfl,g3⟩;have y3:=dw.out _ _ g3;have jq:=za0 y3 1 _ rfl;have jm:=za0 y3 2 _ rfl;have jl:=za0 y3 3 _ rfl;have jk:=za0 y3 4 _ rfl;have G3:=hid g3;clear g3 y3;go_wp2;go_end0;exact⟨rfl,hfin.out _ _ G3.out (by rw[hres.out]<;>simp)⟩
 rcases Classical.em (kd=12) with h12|h12
 ·subst h12;have hres:Hid (ptHt p=[60,97,32,104,114,101,102,61,34]++S.escH inf++([34,62]++zdn ks++[60,47,97,62])):=hid (by rw[hht.out];rfl);clear hht;go_enter func257,ntmps257;go_wp2_with fail
  rw[<-dh.out];refine(jd.out _ ⟨#[60,97,32,104,114,101,102,61,34]⟩ _ bg.out (by(try simp only[zay,Qba,Qd,Qi])<;>omega)).mono ?_
  rintro e1 w1⟨rfl,g1⟩;have y1:=dw.out _ _ g1;have gy:=za0 y1 1 _ rfl;have gq:=za0 y1 2 _ rfl;have fq:=za0 y1 3 _ rfl;have dx:=za0 y1 4 _ rfl;have G1:=hid g1;clear g1 y1;go_wp2_with fail
  refine(lg.out _ inf _ G1.out (by(try simp only[Qa,Qd,Qi])<;>omega)).mono ?_
  rintro e2 w2⟨rfl,g2⟩;have y2:=dw.out _ _ g2;have kr:=za0 y2 1 _ rfl;have kg:=za0 y2 2 _ rfl;have jy:=za0 y2 3 _ rfl;have jw:=za0 y2 4 _ rfl;have G2:=hid g2;clear g2 y2;go_wp2_with fail
  refine(ny.out _ ⟨#[34,62]⟩ ⟨#[60,47,97,62]⟩ _ G2.out (by(try simp only[zay,Qba,Qa,Qd,Qi])<;>omega)).mono ?_
  rintro e3 w3⟨rfl,g3⟩;have y3:=dw.out _ _ g3;have jq:=za0 y3 1 _ rfl;have jm:=za0 y3 2 _ rfl;have jl:=za0 y3 3 _ rfl;have jk:=za0 y3 4 _ rfl;have G3:=hid g3;clear g3 y3;go_wp2;go_end0;exact⟨rfl,hfin.out _ _ G3.out (by rw[hres.out]<;>simp)⟩
 rcases Classical.em (kd=13) with ng|ng
 ·subst ng;have hres:Hid (ptHt p=[60,105,109,103,32,115,114,99,61,34]++S.escH inf++[34,32,97,108,116,61,34]++S.escH (zcr ks)++[34,62]):=hid (by rw[hht.out];rfl);clear hht;go_enter func257,ntmps257;go_wp2_with fail
  rw[<-dh.out];refine(jd.out _ ⟨#[60,105,109,103,32,115,114,99,61,34]⟩ _ bg.out (by(try simp only[zay,Qba,Qd,Qi])<;>omega)).mono ?_
  rintro e1 w1⟨rfl,g1⟩;have y1:=dw.out _ _ g1;have gy:=za0 y1 1 _ rfl;have gq:=za0 y1 2 _ rfl;have fq:=za0 y1 3 _ rfl;have dx:=za0 y1 4 _ rfl;have G1:=hid g1;clear g1 y1;go_wp2_with fail
  refine(lg.out _ inf _ G1.out (by(try simp only[Qa,Qd,Qi])<;>omega)).mono ?_
  rintro e2 w2⟨rfl,g2⟩;have y2:=dw.out _ _ g2;have kr:=za0 y2 1 _ rfl;have kg:=za0 y2 2 _ rfl;have jy:=za0 y2 3 _ rfl;have jw:=za0 y2 4 _ rfl;have G2:=hid g2;clear g2 y2;go_wp2_with fail
  refine(jd.out _ ⟨#[34,32,97,108,116,61,34]⟩ _ G2.out (by(try simp only[zay,Qba,Qa,Qd,Qi])<;>omega)).mono ?_
  rintro e3 w3⟨rfl,g3⟩;have y3:=dw.out _ _ g3;have jq:=za0 y3 1 _ rfl;have jm:=za0 y3 2 _ rfl;have jl:=za0 y3 3 _ rfl;have jk:=za0 y3 4 _ rfl;have G3:=hid g3;clear g3 y3;go_wp2_with fail
  refine(stP.out _ _ G3.out).mono ?_;rintro e4 w4⟨rfl,g4⟩;have y4:=dw.out _ _ g4;have tq:=za0 y4 1 _ rfl;have qz:=za0 y4 2 _ rfl;have qy:=za0 y4 3 _ rfl;have qx:=za0 y4 4 _ rfl;have G4:=hid g4;clear g4 y4;go_wp2_with fail
  refine(lg.out _ (zcr ks) _ G4.out (by(try simp only[Qa,Qd,Qi])<;>omega)).mono ?_
  rintro e5 w5⟨rfl,g5⟩;have y5:=dw.out _ _ g5;have qp:=za0 y5 1 _ rfl;have qm:=za0 y5 2 _ rfl;have qj:=za0 y5 3 _ rfl;have qh:=za0 y5 4 _ rfl;have G5:=hid g5;clear g5 y5;go_wp2_with fail
  refine(jd.out _ ⟨#[34,62]⟩ _ G5.out (by(try simp only[zay,Qba,Qa,Qd,Qi])<;>omega)).mono ?_
  rintro e6 w6⟨rfl,g6⟩;have y6:=dw.out _ _ g6;have qg:=za0 y6 1 _ rfl;have qb:=za0 y6 2 _ rfl;have pz:=za0 y6 3 _ rfl;have pq:=za0 y6 4 _ rfl;have G6:=hid g6;clear g6 y6;go_wp2;go_end0;exact⟨rfl,hfin.out _ _ G6.out (by rw[hres.out]<;>simp)⟩
 rcases Classical.em (kd=14) with mq|mq
 ·subst mq;have hres:Hid (ptHt p=[60,101,109,62]++zdn ks++[60,47,101,109,62]):=hid (by rw[hht.out];rfl);clear hht;go_enter func257,ntmps257;go_wp2_with fail
  rw[<-dh.out];refine(ny.out _ ⟨#[60,101,109,62]⟩ ⟨#[60,47,101,109,62]⟩ _ bg.out (by(try simp only[zay,Qba,Qd,Qi])<;>omega)).mono ?_
  rintro e1 w1⟨rfl,g1⟩;have y1:=dw.out _ _ g1;have gy:=za0 y1 1 _ rfl;have gq:=za0 y1 2 _ rfl;have fq:=za0 y1 3 _ rfl;have dx:=za0 y1 4 _ rfl;have G1:=hid g1;clear g1 y1;go_wp2;go_end0;exact⟨rfl,hfin.out _ _ G1.out (by rw[hres.out]<;>simp)⟩
 rcases Classical.em (kd=15) with mh|mh
 ·subst mh;have hres:Hid (ptHt p=[60,115,116,114,111,110,103,62]++zdn ks++[60,47,115,116,114,111,110,103,62]):=hid (by rw[hht.out];rfl);clear hht;go_enter func257,ntmps257;go_wp2_with fail
  rw[<-dh.out];refine(ny.out _ ⟨#[60,115,116,114,111,110,103,62]⟩ ⟨#[60,47,115,116,114,111,110,103,62]⟩ _ bg.out (by(try simp only[zay,Qba,Qd,Qi])<;>omega)).mono ?_
  rintro e1 w1⟨rfl,g1⟩;have y1:=dw.out _ _ g1;have gy:=za0 y1 1 _ rfl;have gq:=za0 y1 2 _ rfl;have fq:=za0 y1 3 _ rfl;have dx:=za0 y1 4 _ rfl;have G1:=hid g1;clear g1 y1;go_wp2;go_end0;exact⟨rfl,hfin.out _ _ G1.out (by rw[hres.out]<;>simp)⟩
 ·have hres:Hid (ptHt p=[]):=hid (by rw[hht.out,if_neg h8,if_neg h9,if_neg h10,if_neg h11,if_neg h12,if_neg ng,if_neg mq,if_neg mh]);have e8:(kd == 8)=false:=by rw[Qe];exact h8
  have e9:(kd == 9)=false:=by rw[Qe];exact h9
  have e10:(kd == 10)=false:=by rw[Qe];exact h10
  have e11:(kd == 11)=false:=by rw[Qe];exact h11
  have e12:(kd == 12)=false:=by rw[Qe];exact h12
  have e13:(kd == 13)=false:=by rw[Qe];exact ng
  have e14:(kd == 14)=false:=by rw[Qe];exact mq
  have e15:(kd == 15)=false:=by rw[Qe];exact mh
  clear h8 h9 h10 h11 h12 ng mq mh;clear hht;go_enter func257,ntmps257;go_wp2;rw[<-dh.out];go_end0;exact⟨rfl,hfin.out _ _ bg.out (by rw[hres.out]<;>simp)⟩
theorem zt1 (N:Nat):∀(ps:List Pt),cntL ps<=N->zrj ps:=by
 induction N using Nat.strongRecOn with
 | _ N ih=>
 intro ps hN B b A kf kl l bg en w hbl hB hl hk;obtain⟨WA,fq⟩:=Qzz (w.alloc (.cells #[.pointer kf,.pointer kl] 135));have hW0:Wrote 124 B b l w WA:=by rw[fq];exact(Wrote.refl hbl).zfr hB _
 have hC0:WA.heap[w.heap.size]?=some (.cells #[.pointer kf,.pointer kl] 135 (0,0)):=by rw[fq];exact za1 _ _
 have jm:KRep WA A kf ps:=by rw[fq];exact hk.alloc _
 have jw:B<=WA.heap.size:=Qj hB hW0.2.1.size;have kr:Hid (Calls prog 60 #[.pointer (some ⟨b,0,none⟩),.string bg] WA λe w2=>e=.returned (.tuple #[.int .i64 bg.size,.nilIface])/\w2.heap[w.heap.size]?=some (.cells #[.pointer kf,.pointer kl] 135 (0,0))/\Hid (Wrote 124 B b (l++(bg.data.toList++zdn [])) w w2/\KRep w2 A kf ps)):=hid ((pwrite B b l bg WA hW0.1 (by omega) jw).mono (λe w2 ⟨h1,h2⟩=>⟨h1,h2.blk hW0.1 hC0 (by decide) (by decide),hid ⟨by simpa [zdn] using hW0.trans h2,by
  obtain⟨cs,hbb⟩:=zfo hW0.1;exact jm.kept h2.2.2 hbb (by decide)⟩⟩))
 have jy:=hid ih;have lg:=hid hN;have kg:=hid hl;have jd:=hid fq;clear hbl hk ih hN hl fq hW0 hC0 jm jw;go_enter func227,ntmps227;go_wp2_with fail
 rw[<-jd.out];refine kr.out.mono ?_;rintro e w1⟨rfl,hc1,hst⟩;have hF:=hid (zir w.heap.size 0 (.pointer kf) w1 (za0 hc1 0 _ rfl) ⟨_,rfl⟩);clear hc1;go_wp2_with fail
 refine hF.out.mono ?_;rintro e w'⟨rfl,rfl⟩;go_wp2;go_loopg [8] ps.length (λk s8 wr=>∃(dn rs:List Pt) (v:Option Addr),s8=.pointer v/\Hid (ps=dn++rs/\rs.length=k/\Wrote 124 B b (l++(bg.data.toList++zdn dn)) w wr/\KRep wr A v rs))
 case atStart=>exact⟨[],ps,kf,rfl,hid ⟨rfl,rfl,hst.out.1,hst.out.2⟩⟩
 case round=>
  obtain⟨dn,rs,v,rfl,hrel'⟩:=hrel;obtain⟨hps,gy,hW,hkr⟩:=hrel'.out;clear hrel';have hBr:B<=wr.heap.size:=Qj hB hW.2.1.size;have hl0:=kg.out;have hdl:=zj4 dn;cases hkr with
  | nil=>
   rw[Qbk] at hps;have hP:Hid (Calls prog 60 #[.pointer (some ⟨b,0,none⟩),.string en] wr λe w2=>e=.returned (.tuple #[.int .i64 en.size,.nilIface])/\Hid (Wrote 124 B b (l++(bg.data.toList++zdn ps++en.data.toList)) w w2)):=hid ((pwrite B b _ en wr hW.1 (by subst hps;simp only[Qa,S.lda];omega) hBr).mono (λe w2 ⟨h1,h2⟩=>⟨h1,hid (by
    have:=hW.trans h2;subst hps;simpa [List.append_assoc] using this)⟩))
   clear hps gy hW hl0 hdl;go_wp2_with (fail);refine hP.out.mono ?_;rintro e2 w2⟨rfl,h2⟩;go_wp2;go_end0;exact⟨rfl,h2.out⟩
  | cons e ah be r ha hb hke hr=>
   have hwp:wgL ps=wgL dn+wgP e.p+wgL r:=by rw[hps,zd2,zbs];omega
   have hcK:cntL e.p.kids<N:=by
    have:=lg.out;rw[hps,zmq,zlk,zy9] at this;omega
   have jh:=z1k e.p (jy.out (cntL e.p.kids) hcK e.p.kids (Qc _)) B b A e.kf e.kl (e.p.rs:Nat) e.p.ro e.p.rc _ wr hW.1 hBr (by simp only[Qa,S.lda];omega) hke;have hstep:Hid (∀w2,Wrote 124 B b ((l++(bg.data.toList++zdn dn))++ptHt e.p) wr w2->w2.cell? ⟨e.m,9,none⟩=some (.pointer be)/\Hid (ps=(dn++[e.p])++r/\r.length=r.length/\Wrote 124 B b (l++(bg.data.toList++zdn (dn++[e.p]))) w w2/\KRep w2 A be r)):=hid (λw2 h2=>by
    obtain⟨cs,hbb⟩:=zfo hW.1;refine⟨za0 (zl5 h2.2.2 hbb hb (by decide) (by decide)) 9 _ rfl,hid ⟨by rw[hps];simp,rfl,?_,hr.kept h2.2.2 hbb (by decide)⟩⟩;have:=hW.trans h2;rw[zq9];simpa [zdn,List.append_assoc] using this)
   obtain⟨kd,hkd⟩:∃x,e.p.kind=x:=⟨_,rfl⟩;obtain⟨inf,dx⟩:∃x,S.B e.p.info=x:=⟨_,rfl⟩;obtain⟨tx,htx⟩:∃x,S.B e.p.text=x:=⟨_,rfl⟩;obtain⟨m,hm⟩:∃m,e.m=m:=⟨_,rfl⟩;obtain⟨jl,dw⟩:∃x,e.kf=x:=⟨_,rfl⟩;obtain⟨jk,dh⟩:∃x,e.kl=x:=⟨_,rfl⟩;obtain⟨rz,hrz⟩:∃x:Int,((e.p.rs:Nat):Int)=x:=⟨_,rfl⟩;obtain⟨ro,hro⟩:∃x,e.p.ro=x:=⟨_,rfl⟩;obtain⟨rc,hrc⟩:∃x,e.p.rc=x:=⟨_,rfl⟩;have hcs:zcz e ah be=[.int .i64 kd,.string inf,.string tx,.pointer jl,.pointer jk,.int .i64 rz,.bool ro,.bool rc,.pointer ah,.pointer be]:=by
    unfold zcz;rw[hkd,dx,htx,dw,dh,hrz,hro,hrc]
   rw[hcs,hm] at hb;rw[hkd,dx,htx,dw,dh,hrz,hro,hrc] at jh;rw[hm] at hstep;have p0:wr.cell? ⟨m,0,none⟩=some (.int .i64 kd):=za0 hb 0 _ rfl;have p1:wr.cell? ⟨m,1,none⟩=some (.string inf):=za0 hb 1 _ rfl;have p2:wr.cell? ⟨m,2,none⟩=some (.string tx):=za0 hb 2 _ rfl;have p3:wr.cell? ⟨m,3,none⟩=some (.pointer jl):=za0 hb 3 _ rfl;have p4:wr.cell? ⟨m,4,none⟩=some (.pointer jk):=za0 hb 4 _ rfl;have p5:wr.cell? ⟨m,5,none⟩=some (.int .i64 rz):=za0 hb 5 _ rfl;have p6:wr.cell? ⟨m,6,none⟩=some (.bool ro):=za0 hb 6 _ rfl;have p7:wr.cell? ⟨m,7,none⟩=some (.bool rc):=za0 hb 7 _ rfl;have hv:(some e.ad:Option Addr)=some ⟨m,0,none⟩:=by rw[Mem.ad,hm]
   have jg:=hid jh;have gq:=hid gy;clear hps hW hb hke hr hcs hkd dx htx dh hrz hro hrc dw hwp hdl hl0 gy hm jh;rw[hv];clear hv;go_wp2_with (fail);refine jg.out.mono ?_;rintro e2 w2⟨rfl,h2⟩;obtain⟨jq,hr2⟩:=hstep.out w2 h2;have lq:=hid (zdq m (.pointer be) w2 jq ⟨_,rfl⟩);clear h2 jq;go_wp2_with (fail);refine lq.out.mono ?_;rintro e3 w3⟨rfl,rfl⟩;go_wp2;go_roundg r.length
   case rel=>exact⟨dn++[e.p],r,be,rfl,hid ⟨hr2.out.1,rfl,hr2.out.2.2⟩⟩
   case measure=>
    have:=gq.out;simp at this;omega
theorem zy6 (B b:Nat)(l:List UInt8)(beg:ByteArray)(c:List UInt8)(en:ByteArray)(w:World)(hbl:zi7 B b l w)(hB:B<=w.heap.size)(henv:Env w)(hc:c.length<=300000)(hl:l.length+beg.size+90*c.length+en.size<=1000000000):Calls prog 192 #[.pointer (some ⟨b,0,none⟩),.string beg,.string (S.B c),.string en] w λe w'=>e=.returned (.tuple #[])/\Wrote 124 B b (l++(beg.data.toList++zbl c++en.data.toList)) w w':=by
 have hR:=znw (S.B c) w (by rw[S.zav];omega) henv;rw[S.zaz] at hR;have hw:=zl8 c;have hst:Hid (∀kf kl w1,KRep w1 (Tag w1) kf (zen c)->Below w.heap.size w w1->Calls prog 227 #[.pointer (some ⟨b,0,none⟩),.string beg,.agg #[.pointer kf,.pointer kl],.string en] w1 λe w'=>e=.returned (.tuple #[])/\Hid (Wrote 124 B b (l++(beg.data.toList++zbl c++en.data.toList)) w w')):=hid (λkf kl w1 h1 h2=>by
  have hW:=(Wrote.refl hbl).below h2 hB;exact(zt1 _ (zen c) (Qc _) B b (Tag w1) kf kl l beg en w1 hW.1 (Qj hB h2.size) (by omega) h1).mono (λe w' ⟨g1,g2⟩=>⟨g1,hid (hW.trans g2)⟩))
 have bg:=hid hR;clear hR hbl henv hw;go_enter func192,ntmps192;go_wp2_with fail
 refine bg.out.mono ?_;rintro e w1⟨kf,kl,rfl,h1,h2⟩;have hs:=hid (hst.out kf kl w1 h1 h2);clear h1 h2;go_wp2_with fail
 refine hs.out.mono ?_;rintro e w2⟨rfl,h3⟩;go_wp2;go_end0;exact⟨rfl,h3.out⟩
mutual
def pgB:S.Blk->Nat
 | .at_ _ _ _ i t _ kids=>120+6*i.length+96*t.length+pgL kids
def pgL:List S.Blk->Nat
 | []=>0
 | b::r=>pgB b+pgL r
end
mutual
def fitB:S.Blk->Prop
 | .at_ _ _ n i t _ kids=>-9223372036854775808<=n/\n<=9223372036854775807/\i.length<=300000/\t.length<=300000/\fitL kids
def fitL:List S.Blk->Prop
 | []=>True
 | b::r=>fitB b/\fitL r
end
theorem zjb (b:S.Blk):pgB b=120+6*b.info.length+96*b.text.length+pgL b.kids:=by cases b;simp only[pgB];rfl
theorem zng (a b:List S.Blk):pgL (a++b)=pgL a+pgL b:=by
 induction a with
 | nil=>simp[pgL]
 | cons p r ih=>simp only[List.cons_append,pgL,ih];omega
theorem zhl (ts:List S.Blk)(k:Nat)(t:S.Blk)(h:ts[k]?=some t):pgL (ts.take (k+1))=pgL (ts.take k)+pgB t:=by
 rw[List.take_add_one,h,zng];simp[pgL]
theorem zcx (ts:List S.Blk)(k:Nat):pgL (ts.take k)<=pgL ts:=by
 conv=>rhs;rw[<-List.take_append_drop k ts,zng]
 omega
theorem zji (ts:List S.Blk)(h:fitL ts)(i:Nat)(t:S.Blk)(hi:ts[i]?=some t):fitB t:=by
 induction ts generalizing i with
 | nil=>simp at hi
 | cons b r ih=>
  simp only[fitL] at h;cases i with
  | zero=>simp at hi;subst hi;exact h.1
  | succ i=>exact ih h.2 i (by simpa using hi)
theorem zik (ts:List S.Blk)(h:fitL ts)(k:Nat):fitL (ts.take k):=by
 induction ts generalizing k with
 | nil=>simp[fitL]
 | cons b r ih=>
  cases k with
  | zero=>simp[fitL]
  | succ k=>simp only[fitL,Qz] at *;exact⟨h.1,ih h.2 k⟩
theorem zov (n:Int):(zgb n).length=2:=by unfold zgb;split<;>rfl
theorem zyf (l:List UInt8):(S.word l).length<=l.length:=by
 unfold S.word Lib.cut;split<;>simp<;>omega
theorem zuo (n:Int)(h0 : -9223372036854775808<=n)(h1:n<=9223372036854775807):(zhp n).length<=40:=by
 have:=Lib.itoa_length_le n h0 h1;unfold zhp;split
 ·simp only[Qa,Qd,Qi];omega
 ·simp
mutual
theorem z0h (tight:Bool):∀b:S.Blk,fitB b->(zkp zbl tight b).length<=pgB b
 | .at_ z k n i t lo kids=>by
  intro hf;simp only[fitB] at hf;have h1:=zel false kids hf.2.2.2.2;have h2:=zft (!lo) kids hf.2.2.2.2;have h3:=zzt t;have h4:=Lib.itoa_length_le n hf.1 hf.2.1;have h5:=S.zc9 (S.word i);have h6:=zyf i;have h7:=S.zc9 t;have h8:=zov n;have h9:=zuo n hf.1 hf.2.1;simp only[zkp,pgB];(repeat' split)<;>(try simp only[Qa,Qd,Qi])<;>omega
theorem zel (tight:Bool):∀l:List S.Blk,fitL l->(zbj zbl tight l).length<=pgL l
 | []=>by intro _;simp[zbj]
 | b::r=>by
  intro hf;simp only[fitL] at hf;have h1:=z0h tight b hf.1;have h2:=zel tight r hf.2;simp only[zbj,Qa,pgL];omega
theorem zft (tight:Bool):∀l:List S.Blk,fitL l->(zbd zbl tight l).length<=pgL l
 | []=>by intro _;simp[zbd]
 | b::r=>by
  intro hf;simp only[fitL] at hf;have h1:=zx1 tight b hf.1;have h2:=zft tight r hf.2;simp only[zbd,Qa,pgL];omega
theorem zx1 (tight:Bool):∀b:S.Blk,fitB b->(zj2 zbl tight b).length<=pgB b
 | .at_ z k n i t lo kids=>by
  intro hf;simp only[fitB] at hf;have h1:=zel tight kids hf.2.2.2.2;simp only[zj2,pgB,Qa,Qd,Qi];omega
end
theorem zu3 (tight:Bool)(ts:List S.Blk)(k:Nat)(t:S.Blk)(h:ts[k]?=some t):zbj zbl tight (ts.take (k+1))=zbj zbl tight (ts.take k)++zkp zbl tight t:=by
 rw[List.take_add_one,h,zoh];simp[zbj]
theorem zh8 (tight:Bool)(ts:List S.Blk)(k:Nat)(t:S.Blk)(h:ts[k]?=some t):zbd zbl tight (ts.take (k+1))=zbd zbl tight (ts.take k)++zj2 zbl tight t:=by
 rw[List.take_add_one,h,zn3];simp[zbd]
def EnvP (B : Nat)(w : World) : Prop := Env w ∧ (3 < B ∧ 0 < B) ∧ Lib.TabIs prog w "internal/strconv.uint64pow10" .u64 Lib.pow10Tab ∧ ∃ g, prog.globalNamed "internal/strconv.uint64pow10" = some g ∧ g < B
theorem EnvP.below {B:Nat}{w w':World}(h:EnvP B w)(hb:Below B w w'):EnvP B w':=by
 obtain⟨h1,⟨h2,h3⟩,h4,g,h5,h6⟩:=h;refine⟨h1.z4x h2 h3 hb,⟨h2,h3⟩,?_,g,h5,h6⟩;unfold Lib.TabIs World.var? at *;rw[h5] at h4 ⊢;simp only[Option.bind_some] at h4 ⊢;rw[hb.block g h6];exact h4
theorem Wrote.w {B b:Nat}{l:List UInt8}{w w1:World}(h:Wrote 124 B b l w w1)(hB:B<=w.heap.size)(x:ByteArray)(hl:l.length+x.size<=1000000000):Calls prog 60 #[.pointer (some ⟨b,0,none⟩),.string x] w1 λe w2=>e=.returned (.tuple #[.int .i64 x.size,.nilIface])/\Wrote 124 B b (l++x.data.toList) w w2:=
 (pwrite B b l x w1 h.1 hl (Qj hB h.2.1.size)).mono (λ_ _ ⟨h1,h2⟩=>⟨h1,h.trans h2⟩)
theorem Wrote.b {B b:Nat}{l:List UInt8}{w w1:World}(h:Wrote 124 B b l w w1)(hB:B<=w.heap.size)(x:UInt8)(hl:l.length+1<=1000000000):Calls prog 151 #[.pointer (some ⟨b,0,none⟩),.int .u8 (x.toNat:Int)] w1 λe w2=>e=.returned .nilIface/\Wrote 124 B b (l++[x]) w w2:=
 (ztk B b l x w1 h.1 hl (Qj hB h.2.1.size)).mono (λ_ _ ⟨h1,h2⟩=>⟨h1,h.trans h2⟩)
theorem Wrote.e {B b:Nat}{l:List UInt8}{w w1:World}(h:Wrote 124 B b l w w1)(hB:B<=w.heap.size)(x:ByteArray)(hl:l.length+6*x.size<=1000000000):Calls prog 195 #[.pointer (some ⟨b,0,none⟩),.string x] w1 λe w2=>e=.returned (.tuple #[])/\Wrote 124 B b (l++S.escH x.data.toList) w w2:=
 (zut B b l x w1 h.1 hl (Qj hB h.2.1.size)).mono (λ_ _ ⟨h1,h2⟩=>⟨h1,h.trans h2⟩)
theorem Wrote.c {B b:Nat}{l:List UInt8}{w w1:World}(h:Wrote 124 B b l w w1)(hB:B<=w.heap.size)(henv:EnvP B w)(beg:ByteArray)(c:List UInt8)(en:ByteArray)(hc:c.length<=300000)(hl:l.length+beg.size+90*c.length+en.size<=1000000000):Calls prog 192 #[.pointer (some ⟨b,0,none⟩),.string beg,.string (S.B c),.string en] w1 λe w2=>e=.returned (.tuple #[])/\Wrote 124 B b (l++(beg.data.toList++zbl c++en.data.toList)) w w2:=
 (zy6 B b l beg c en w1 h.1 (Qj hB h.2.1.size) (henv.below h.2.1).1 hc hl).mono (λ_ _ ⟨h1,h2⟩=>⟨h1,h.trans h2⟩)
theorem Wrote.i {B b:Nat}{l:List UInt8}{w w1:World}(h:Wrote 124 B b l w w1)(hB:B<=w.heap.size)(henv:EnvP B w)(n:Int)(h0 : -9223372036854775808<=n)(h1:n<=9223372036854775807):Calls prog 193 #[.int .i64 n] w1 λe w2=>e=.returned (.string (S.B (Lib.itoa n)))/\Wrote 124 B b l w w2:=by
 refine(Tryz.strconv_Itoa n h0 h1 w1 (henv.below h.2.1).2.2.1).mono ?_;rintro e w2⟨rfl,k,os,rfl⟩;exact⟨rfl,h.below (Lib.below_grow _ w1 (Qc _) k os) (Qj hB h.2.1.size)⟩
theorem zs7 (w:World)(n:Nat):Below w.heap.size w (w.drewN n):=by
 induction n with
 | zero=>exact Below.refl _ _
 | succ n ih=>exact Below.drew ih
theorem zff (x y:ByteArray):(x++y).data.toList=x.data.toList++y.data.toList:=by simp[ByteArray.data_append]
theorem zew (x y:ByteArray):(x++y).size=x.size+y.size:=by simp[ByteArray.size_append]
theorem z0b (B b:Nat)(l:List UInt8)(w:World)(hbl:zi7 B b l w)(hB:B<=w.heap.size)(henv:EnvP B w)(k li:Int)(la:Option Addr)(lz lc:Nat)(n:Int)(info text:List UInt8)(loose:Bool)(ka:Option Addr)(kn kc:Nat)(tight:Bool)(hc:text.length<=300000)(hl:l.length+120+6*info.length+96*text.length<=1000000000):Calls prog 147 #[.pointer (some ⟨b,0,none⟩),.agg #[.int .i64 k,.int .i64 li,.slice la lz lc,.int .i64 n,.string (S.B info),.string (S.B text),.bool loose,.slice ka kn kc],.bool tight] w λe w'=>e=.returned (.tuple #[])/\Wrote 124 B b (l++(if tight=true then zbl text++[10] else [60,112,62]++zbl text++[60,47,112,62,10])) w w':=by
 obtain⟨WX,fq⟩:=Qzz (w.alloc (.cells #[.int .i64 k,.int .i64 li,.slice la lz lc,.int .i64 n,.string (S.B info),.string (S.B text),.bool loose,.slice ka kn kc] 110));have hW0:Wrote 124 B b l w WX:=by rw[fq];exact(Wrote.refl hbl).zfr hB _
 have hX0:WX.heap[w.heap.size]?=some (.cells #[.int .i64 k,.int .i64 li,.slice la lz lc,.int .i64 n,.string (S.B info),.string (S.B text),.bool loose,.slice ka kn kc] 110 (0,0)):=by rw[fq];exact za1 _ _
 have jd:Hid (∀l' w1,Wrote 124 B b l' w w1->Wrote 124 B b l' WX w1->w1.heap[w.heap.size]?=some (.cells #[.int .i64 k,.int .i64 li,.slice la lz lc,.int .i64 n,.string (S.B info),.string (S.B text),.bool loose,.slice ka kn kc] 110 (0,0))):=hid (λl' w1 _ h=>h.blk hW0.1 hX0 (by decide) (by decide));have gy:B<=WX.heap.size:=Qj hB hW0.2.1.size;have dw:EnvP B WX:=henv.below hW0.2.1;have dh:=hid (Wrote.refl hW0.1);have hfin:Hid (∀l' w1,Wrote 124 B b l' WX w1->Wrote 124 B b l' w w1):=hid (λl' w1 h=>hW0.trans h);have hkX:Hid (∀l' w1,Wrote 124 B b l' WX w1->w1.heap[w.heap.size]?=some (.cells #[.int .i64 k,.int .i64 li,.slice la lz lc,.int .i64 n,.string (S.B info),.string (S.B text),.bool loose,.slice ka kn kc] 110 (0,0))):=hid (λl' w1 h=>h.blk hW0.1 hX0 (by decide) (by decide));have dx:=hid fq;have bg:=hid dw;have x3:WX.cell? ⟨w.heap.size,3,none⟩=some (.int .i64 n):=za0 hX0 3 _ rfl;have x4:WX.cell? ⟨w.heap.size,4,none⟩=some (.string (S.B info)):=za0 hX0 4 _ rfl;have x5:WX.cell? ⟨w.heap.size,5,none⟩=some (.string (S.B text)):=za0 hX0 5 _ rfl;have x6:WX.cell? ⟨w.heap.size,6,none⟩=some (.bool loose):=za0 hX0 6 _ rfl;have x7:WX.cell? ⟨w.heap.size,7,none⟩=some (.slice ka kn kc):=za0 hX0 7 _ rfl;clear hbl hX0 hW0 fq jd dw henv;cases tight
 ·have hC:=hid (dh.out.c gy bg.out ⟨#[60,112,62]⟩ text ⟨#[60,47,112,62,10]⟩ hc (by rw[zay,zay];simp only[Qba,Qd,Qi];omega));go_enter func147,ntmps147;go_wp2_with fail
  rw[<-dx.out];refine hC.out.mono ?_;rintro e w1⟨rfl,h1⟩;have gq:=hid h1;clear h1;go_wp2;go_end0;exact⟨rfl,hfin.out _ _ gq.out⟩
 ·have hC:=hid (dh.out.c gy bg.out ⟨#[]⟩ text ⟨#[10]⟩ hc (by rw[zay,zay];simp only[Qba,Qd,Qi];omega));go_enter func147,ntmps147;go_wp2_with fail
  rw[<-dx.out];refine hC.out.mono ?_;rintro e w1⟨rfl,h1⟩;have gq:=hid h1;clear h1;go_wp2;refine bodyPost_ret (v:=.tuple #[]) (by simp[results,results147,go_sem]) rfl ?_;exact⟨rfl,by have:=hfin.out _ _ gq.out;simpa using this⟩
theorem zwo (B b:Nat)(l:List UInt8)(w:World)(hbl:zi7 B b l w)(hB:B<=w.heap.size)(henv:EnvP B w)(k li:Int)(la:Option Addr)(lz lc:Nat)(n:Int)(info text:List UInt8)(loose:Bool)(ka:Option Addr)(kn kc:Nat)(h0 : -9223372036854775808<=n)(h1:n<=9223372036854775807)(hc:text.length<=300000)(hl:l.length+120+6*info.length+96*text.length<=1000000000):Calls prog 148 #[.pointer (some ⟨b,0,none⟩),.agg #[.int .i64 k,.int .i64 li,.slice la lz lc,.int .i64 n,.string (S.B info),.string (S.B text),.bool loose,.slice ka kn kc]] w λe w'=>e=.returned (.tuple #[])/\Wrote 124 B b (l++([60,104]++Lib.itoa n++[62]++zbl text++([60,47,104]++Lib.itoa n++[62,10]))) w w':=by
 obtain⟨WX,dw⟩:=Qzz (w.alloc (.cells #[.int .i64 k,.int .i64 li,.slice la lz lc,.int .i64 n,.string (S.B info),.string (S.B text),.bool loose,.slice ka kn kc] 110));have hW0:Wrote 124 B b l w WX:=by rw[dw];exact(Wrote.refl hbl).zfr hB _
 have hX0:WX.heap[w.heap.size]?=some (.cells #[.int .i64 k,.int .i64 li,.slice la lz lc,.int .i64 n,.string (S.B info),.string (S.B text),.bool loose,.slice ka kn kc] 110 (0,0)):=by rw[dw];exact za1 _ _
 have jd:Hid (∀l' w1,Wrote 124 B b l' w w1->Wrote 124 B b l' WX w1->w1.heap[w.heap.size]?=some (.cells #[.int .i64 k,.int .i64 li,.slice la lz lc,.int .i64 n,.string (S.B info),.string (S.B text),.bool loose,.slice ka kn kc] 110 (0,0))):=hid (λl' w1 _ h=>h.blk hW0.1 hX0 (by decide) (by decide));have gy:B<=WX.heap.size:=Qj hB hW0.2.1.size;have dh:EnvP B WX:=henv.below hW0.2.1;have dx:=hid (Wrote.refl hW0.1);have hfin:Hid (∀l' w1,Wrote 124 B b l' WX w1->Wrote 124 B b l' w w1):=hid (λl' w1 h=>hW0.trans h);have hkX:Hid (∀l' w1,Wrote 124 B b l' WX w1->w1.heap[w.heap.size]?=some (.cells #[.int .i64 k,.int .i64 li,.slice la lz lc,.int .i64 n,.string (S.B info),.string (S.B text),.bool loose,.slice ka kn kc] 110 (0,0))):=hid (λl' w1 h=>h.blk hW0.1 hX0 (by decide) (by decide));have gq:=hid dw;have bg:=hid dh;have x3:WX.cell? ⟨w.heap.size,3,none⟩=some (.int .i64 n):=za0 hX0 3 _ rfl;have x4:WX.cell? ⟨w.heap.size,4,none⟩=some (.string (S.B info)):=za0 hX0 4 _ rfl;have x5:WX.cell? ⟨w.heap.size,5,none⟩=some (.string (S.B text)):=za0 hX0 5 _ rfl;have x6:WX.cell? ⟨w.heap.size,6,none⟩=some (.bool loose):=za0 hX0 6 _ rfl;have x7:WX.cell? ⟨w.heap.size,7,none⟩=some (.slice ka kn kc):=za0 hX0 7 _ rfl;clear hbl hX0 hW0 dw jd dh henv;have hit:=Lib.itoa_length_le n h0 h1;have hI:=hid (dx.out.i gy bg.out n h0 h1);obtain⟨lv,hlv⟩:=Qyy (S.B (Lib.itoa n));have hlz:lv.size<=21:=by rw[<-hlv,S.zav];exact hit
 rw[hlv] at hI;have fq:=hid hlv;clear hlv hit;go_enter func148,ntmps148;go_wp2_with fail
 rw[<-gq.out];refine hI.out.mono ?_;rintro e w1⟨rfl,g1⟩;have y5:=za0 (hkX.out _ _ g1) 5 _ rfl;have G1:=hid g1;clear g1;go_wp2_with fail
 refine(G1.out.c gy bg.out _ text _ hc (by simp only[zew,zay,Qba,Qd,Qi];omega)).mono ?_;rintro e w2⟨rfl,g2⟩;have G2:=hid g2;clear g2;go_wp2;go_end0;refine⟨rfl,?_⟩;have:=hfin.out _ _ G2.out;rw[<-fq.out] at this;simpa [zff,S.zaz,List.append_assoc] using this
theorem zyq (B b:Nat)(l:List UInt8)(w:World)(hbl:zi7 B b l w)(hB:B<=w.heap.size)(henv:EnvP B w)(k li:Int)(la:Option Addr)(lz lc:Nat)(n:Int)(info text:List UInt8)(loose:Bool)(ka:Option Addr)(kn kc:Nat)(hc:text.length<=300000)(hi:info.length<=300000)(hl:l.length+120+6*info.length+96*text.length<=1000000000):Calls prog 149 #[.pointer (some ⟨b,0,none⟩),.agg #[.int .i64 k,.int .i64 li,.slice la lz lc,.int .i64 n,.string (S.B info),.string (S.B text),.bool loose,.slice ka kn kc]] w λe w'=>e=.returned (.tuple #[])/\Wrote 124 B b (l++([60,112,114,101,62,60,99,111,100,101]++(if info=[] then [] else [32,99,108,97,115,115,61,34]++S.escH (S.word info)++[34])++[62]++S.escH text++[60,47,99,111,100,101,62,60,47,112,114,101,62,10])) w w':=by
 obtain⟨WX,dx⟩:=Qzz (w.alloc (.cells #[.int .i64 k,.int .i64 li,.slice la lz lc,.int .i64 n,.string (S.B info),.string (S.B text),.bool loose,.slice ka kn kc] 110));have hW0:Wrote 124 B b l w WX:=by rw[dx];exact(Wrote.refl hbl).zfr hB _
 have hX0:WX.heap[w.heap.size]?=some (.cells #[.int .i64 k,.int .i64 li,.slice la lz lc,.int .i64 n,.string (S.B info),.string (S.B text),.bool loose,.slice ka kn kc] 110 (0,0)):=by rw[dx];exact za1 _ _
 have jh:Hid (∀l' w1,Wrote 124 B b l' w w1->Wrote 124 B b l' WX w1->w1.heap[w.heap.size]?=some (.cells #[.int .i64 k,.int .i64 li,.slice la lz lc,.int .i64 n,.string (S.B info),.string (S.B text),.bool loose,.slice ka kn kc] 110 (0,0))):=hid (λl' w1 _ h=>h.blk hW0.1 hX0 (by decide) (by decide));have bg:B<=WX.heap.size:=Qj hB hW0.2.1.size;have dw:EnvP B WX:=henv.below hW0.2.1;have fq:=hid (Wrote.refl hW0.1);have hfin:Hid (∀l' w1,Wrote 124 B b l' WX w1->Wrote 124 B b l' w w1):=hid (λl' w1 h=>hW0.trans h);have hkX:Hid (∀l' w1,Wrote 124 B b l' WX w1->w1.heap[w.heap.size]?=some (.cells #[.int .i64 k,.int .i64 li,.slice la lz lc,.int .i64 n,.string (S.B info),.string (S.B text),.bool loose,.slice ka kn kc] 110 (0,0))):=hid (λl' w1 h=>h.blk hW0.1 hX0 (by decide) (by decide));have gq:=hid dx;have dh:=hid dw;have x3:WX.cell? ⟨w.heap.size,3,none⟩=some (.int .i64 n):=za0 hX0 3 _ rfl;have x4:WX.cell? ⟨w.heap.size,4,none⟩=some (.string (S.B info)):=za0 hX0 4 _ rfl;have x5:WX.cell? ⟨w.heap.size,5,none⟩=some (.string (S.B text)):=za0 hX0 5 _ rfl;have x6:WX.cell? ⟨w.heap.size,6,none⟩=some (.bool loose):=za0 hX0 6 _ rfl;have x7:WX.cell? ⟨w.heap.size,7,none⟩=some (.slice ka kn kc):=za0 hX0 7 _ rfl;clear hbl hX0 hW0 dx jh dw henv;have he1:=S.zc9 (S.word info);have he2:=zyf info;have jq:=S.zc9 text;have jd:Hid (∀w1 l',Wrote 124 B b l' WX w1->Calls prog 194 #[.string (S.B info),.string ⟨#[32]⟩] w1 λe w2=>∃r f,e=.returned (.tuple #[.string (S.B (S.word info)),.string r,.bool f])/\Wrote 124 B b l' WX w2):=hid (λw1 l' h=>by
  obtain⟨m,hm⟩:=(dh.out.below h.2.1).1.2.1;have:=Tryz.strings_Cut (S.B info) ⟨#[32]⟩ m w1 (by rw[S.zav];omega) hm;rw[S.zaz] at this;refine this.mono ?_;rintro e w2⟨rfl,q,rfl⟩;exact⟨_,_,rfl,h.below (zs7 _ _) (Qj bg h.2.1.size)⟩)
 obtain⟨R,hR⟩:=Qzz (l++([60,112,114,101,62,60,99,111,100,101]++(if info=[] then [] else [32,99,108,97,115,115,61,34]++S.escH (S.word info)++[34])++[62]++S.escH text++[60,47,99,111,100,101,62,60,47,112,114,101,62,10]))
 rw[<-hR];have gy:=hid hR;clear hR;go_enter func149,ntmps149;go_wp2_with fail
 rw[<-gq.out];refine(fq.out.w bg ⟨#[60,112,114,101,62,60,99,111,100,101]⟩ (by rw[zay];simp only[Qba,Qd,Qi];omega)).mono ?_;rintro e w1⟨rfl,g1⟩;have y1:=hkX.out _ _ g1;have jg:=za0 y1 4 _ rfl;have jm:=za0 y1 5 _ rfl;have G1:=hid g1;clear g1 y1;by_cases hinf:info=[]
 ·subst hinf;have hne:(S.B []:ByteArray)=⟨#[]⟩:=rfl;rw[hne] at jg;go_wp2_with fail
  refine(G1.out.b bg 62 (by simp only[Qa,Qd,Qi];omega)).mono ?_;rintro e w2⟨rfl,g2⟩;have y25:=za0 (hkX.out _ _ g2) 5 _ rfl;have G2:=hid g2;clear g2;go_wp2_with fail
  refine(G2.out.e bg (S.B text) (by rw[S.zav];simp only[Qa,Qd,Qi];omega)).mono ?_;rintro e w3⟨rfl,g3⟩;rw[S.zaz] at g3;have G3:=hid g3;clear g3;go_wp2_with fail
  refine(G3.out.w bg ⟨#[60,47,99,111,100,101,62,60,47,112,114,101,62,10]⟩ (by rw[zay];simp only[Qba,Qa,Qd,Qi];omega)).mono ?_;rintro e w4⟨rfl,g4⟩;have G4:=hid g4;clear g4;go_wp2;go_end0;refine⟨rfl,?_⟩;have:=hfin.out _ _ G4.out;rw[gy.out];simpa [List.append_assoc] using this
 ·have hne:(S.B info).toList.isEmpty=false:=by
   rw[ByteArray.toList_eq,S.zaz];cases info with
   | nil=>exact absurd rfl hinf
   | cons c r=>rfl
  have hif:Hid ((if info=[] then [] else [32,99,108,97,115,115,61,34]++S.escH (S.word info)++[34])=[32,99,108,97,115,115,61,34]++S.escH (S.word info)++[34]):=hid (if_neg hinf)
  rw[hif.out] at gy;have jk:=hid hinf;clear hinf;go_wp2_with fail
  refine(jd.out _ _ G1.out).mono ?_;rintro e w2⟨r,f,rfl,g2⟩;have G2:=hid g2;clear g2;go_wp2_with fail
  refine(G2.out.w bg ⟨#[32,99,108,97,115,115,61,34]⟩ (by rw[zay];simp only[Qba,Qa,Qd,Qi];omega)).mono ?_;rintro e w3⟨rfl,g3⟩;have G3:=hid g3;clear g3;go_wp2_with fail
  refine(G3.out.e bg (S.B (S.word info)) (by rw[S.zav];simp only[Qa,Qd,Qi];omega)).mono ?_;rintro e w4⟨rfl,g4⟩;rw[S.zaz] at g4;have G4:=hid g4;clear g4;go_wp2_with fail
  refine(G4.out.b bg 34 (by simp only[Qa,Qd,Qi];omega)).mono ?_;rintro e w5⟨rfl,g5⟩;have G5:=hid g5;clear g5;go_wp2_with fail
  refine(G5.out.b bg 62 (by simp only[Qa,Qd,Qi];omega)).mono ?_;rintro e w6⟨rfl,g6⟩;have jl:=za0 (hkX.out _ _ g6) 5 _ rfl;have G6:=hid g6;clear g6;go_wp2_with fail
  refine(G6.out.e bg (S.B text) (by rw[S.zav];simp only[Qa,Qd,Qi];omega)).mono ?_;rintro e w7⟨rfl,g7⟩;rw[S.zaz] at g7;have G7:=hid g7;clear g7;go_wp2_with fail
  refine(G7.out.w bg ⟨#[60,47,99,111,100,101,62,60,47,112,114,101,62,10]⟩ (by rw[zay];simp only[Qba,Qa,Qd,Qi];omega)).mono ?_;rintro e w8⟨rfl,g8⟩;have G8:=hid g8;clear g8;go_wp2;go_end0;refine⟨rfl,?_⟩;have:=hfin.out _ _ G8.out;rw[gy.out];simpa [List.append_assoc] using this
end Go.Proofs.YtlojgpkajkedeaaGreatDoor
