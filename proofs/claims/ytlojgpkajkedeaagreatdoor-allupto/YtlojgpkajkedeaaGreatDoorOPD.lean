import Derived.Test.YtlojgpkajkedeaaGreatDoorOShelfI
import Derived.Test.YtlojgpkajkedeaaGreatDoorOPB
import Derived.Deep.LoopGhost
import Derived.Lib.ItoaLen
import Derived.Lib.LaidTab
import Derived.Lib.AppendIntMem
set_option maxHeartbeats 0
set_option maxRecDepth 100000
namespace Go.Proofs.YtlojgpkajkedeaaGreatDoor
open Go.RowKit Go.Proofs.Tryz
theorem Tw {T:TypeId}{B b:Nat}{d:List Value}{w:Sw}(g:Lib.IsBuilderF T 5 B b d w):∃f,w.heap[b]?=some (.cells f T (0,0)):=by
 rcases g with ⟨_,h,a,_⟩|⟨_,h,a,_⟩
 ·exact⟨_,a⟩
 exact⟨_,a⟩
theorem Xe {w w':Sw}{b a T T2:Nat}{cs f:Array Value}(k:Lib.OthersKept 5 (some b) w w')(d:w.heap[b]?=some (.cells cs T (0,0)))(g:w.heap[a]?=some (.cells f T2 (0,0)))(j:T2≠T)(h:T2≠5):w'.heap[a]?=some (.cells f T2 (0,0)):=by
 refine k a _ g (λe=>?_) (λc l e=>?_)
 ·have:a=b:=by simpa using e
  subst this;rw[g]at d;simp only[Option.some.injEq,Obj.cells.injEq]at d;exact j d.2.1
 simp only[Obj.cells.injEq]at e;exact h e.2.1
theorem Ce.kept {w w':Sw}{A:Nat->Prop}{a:So}{ps:List Pt}(g:Ce w A a ps){b T:Nat}{cs:Array Value}(l:Lib.OthersKept 5 (some b) w w')(k:w.heap[b]?=some (.cells cs T (0,0)))(h:179≠T):Ce w' A a ps:=by
 induction g with
 |nil=>exact .nil
 |cons e d f q j m r s o p=>exact .cons e d f q j (Xe l k m h J) o p
theorem Ce.alloc {w:Sw}{A:Nat->Prop}{a:So}{ps:List Pt}(j:Ce w A a ps)(f:Obj):Ce (w.alloc f) A a ps:=by
 induction j with
 |nil=>exact .nil
 |cons e g h o k d p q l m=>exact .cons e g h o k ((Sqj w f e.m (Qq.1 d).1).trans d) l m
theorem zd1 {T:TypeId}{B b:Nat}{f:List Value}{w:Sw}(a:Lib.IsBuilderF T 5 B b f w)(d:Obj):Lib.IsBuilderF T 5 B b f (w.alloc d):=by
 rcases a with a|a
 ·exact .inl (a.alloc d)
 exact .inr (a.alloc d)
theorem Wrote.Lm {T:TypeId}{B b:Nat}{l:List UInt8}{w f:Sw}(d:Wrote T B b l w f)(g:B<=f)(a:Obj):Wrote T B b l w (f.alloc a):=⟨zd1 d.1 a,d.2.1.alloc g a,d.2.2.alloc a⟩
def zmi (ps:List Pt):Prop:=∀(B b:Nat) (f:Nat->Prop) (d kl:So) (a:List UInt8) (w:Sw),Lib.IsBuilderF 104 5 B b (Lib.byteCells a) w->B<=w.heap.size->a.length+Ca ps<=1000000000->Ce w f d ps ->
 Calls prog 105 #[.pointer (some b),.agg #[.pointer d,.pointer kl]] w λe g=>e=.returned (.tuple #[])/\Wrote 104 B b (a++Dc ps) w g
theorem zl9 (B b:Nat)(l:List UInt8)(s:Sb)(w:Sw)(f:Lib.IsBuilderF 104 5 B b (Lib.byteCells l) w)(m:l.length+s.size<=1000000000)(k:B<=w):Calls prog 60 #[.pointer (some b),s] w λe d=>e=.returned (.tuple #[s.size,.nilIface])/\Wrote 104 B b (l++s.data.toList) w d:=by
 refine(Tryz.Vj B b _ s w f (by rw[Lib.byteCells_length];omega) k).mono ?_;rintro e d⟨g,a,h,j⟩;rw[Lib.strCells_eq,<-Lib.byteCells_append]at a;exact⟨g,.inr a,h,j⟩
theorem zdi (B b:Nat)(l:List UInt8)(c:UInt8)(w:Sw)(f:Lib.IsBuilderF 104 5 B b (Lib.byteCells l) w)(m:l.length+1<=1000000000)(k:B<=w):Calls prog 151 #[.pointer (some b),.int .u8 (c.toNat:Int)] w λe d=>e=.returned .nilIface/\Wrote 104 B b (l++[c]) w d:=by
 refine(Tryz.Wu B b _ (c.toNat:Int) w f (by rw[Lib.byteCells_length];omega) k).mono ?_;rintro e d⟨g,a,h,j⟩;rw[show (Lib.byteCells l++[.int .u8 (c.toNat:Int)])=Lib.byteCells (l++[c]) by rw[Lib.byteCells_append];rfl]at a;exact⟨g,.inr a,h,j⟩
theorem zjb (N:Nat):∀(s:List Pt),D5 s<=N->zmi s:=by
 induction N using Nat.strongRecOn with
 |_ N a9=>
 intro s ao B b W y kl r w av an a1 ay;have bb:=V (U3 w 0 (.pointer y) (w.alloc (.cells #[.pointer y,.pointer kl] 135)) (X (Ak _ _) 0 _ rfl) ⟨_,rfl⟩);have a7:U (Wrote 104 B b r w (w.alloc (.cells #[.pointer y,.pointer kl] 135))/\Ce (w.alloc (.cells #[.pointer y,.pointer kl] 135)) W y s):=V ⟨(Wrote.refl av).Lm an _,ay.alloc _⟩;have bo:=V a9;have bd:=V ao;have bl:=V a1;clear av ay a9 ao a1;go_enter func105,ntmps105;go_wp2_with fail
 apply bb.m;rintro e A⟨rfl,rfl⟩;go_wp2;go_loopg [4,5] s.length (λbp bq _ wr=>∃(d rs:List Pt) (al:So),bq=.pointer al/\U (s=d++rs/\rs.length=bp/\Wrote 104 B b (r++Dc d) w wr/\Ce wr W al rs))
 case atStart=>
  refine⟨[],s,y,rfl,V ⟨rfl,rfl,?_,a7.q.2⟩⟩;simpa [Dc]using a7.q.1
 case round=>
  obtain⟨d,rs,al,rfl,a4⟩:=hrel;obtain⟨v,ai,H,bj⟩:=a4.q;clear a4;have ba:B<=wr:=Qj an H.2.1.size;cases bj with
  |nil=>
   have bi:U (Wrote 104 B b (r++Dc s) w wr):=V (by
    rw[Qbk]at v;subst v;exact H)
   clear v ai H;go_wp2;go_end0;exact⟨rfl,bi.q⟩
  |cons e am m k bw q az a2=>
   obtain⟨j,af⟩:∃l,e.p.kind=l:=⟨_,rfl⟩;obtain⟨aj,ax⟩:∃l,S.B e.p.info=l:=⟨_,rfl⟩;obtain⟨z,Q⟩:∃l,S.B e.p.text=l:=⟨_,rfl⟩;obtain⟨g,ah⟩:=Qyy (e.m);obtain⟨R,ag⟩:∃l,e.kf=l:=⟨_,rfl⟩;obtain⟨T,a0⟩:∃l,e.kl=l:=⟨_,rfl⟩;obtain⟨ak,a6⟩:∃l:Int,(e.p.rs:Int)=l:=⟨_,rfl⟩;obtain⟨ro,a5⟩:∃l,e.p.ro=l:=⟨_,rfl⟩;obtain⟨rc,a3⟩:∃l,e.p.rc=l:=⟨_,rfl⟩;have aw:Jc e am m=[.int .i64 j,.string aj,.string z,.pointer R,.pointer T,.int .i64 ak,.bool ro,.bool rc,.pointer am,.pointer m]:=by
    unfold Jc;rw[af,ax,Q,ag,a0,a6,a5,a3]
   rw[aw,ah]at q;have bx:wr.cell? g=some (.int .i64 j):=X q 0 _ rfl;have bz:wr.cell? (g 1)=some (.string aj):=X q 1 _ rfl;have b0:wr.cell? (g 2)=some (.string z):=X q 2 _ rfl;have b1:wr.cell? (g 3)=some (.pointer R):=X q 3 _ rfl;have b2:wr.cell? (g 4)=some (.pointer T):=X q 4 _ rfl;have b3:wr.cell? (g 5)=some (.int .i64 ak):=X q 5 _ rfl;have b4:wr.cell? (g 6)=some (.bool ro):=X q 6 _ rfl;have b5:wr.cell? (g 7)=some (.bool rc):=X q 7 _ rfl;have a8:(some e.ad:So)=some ⟨g,0,none⟩:=by rw[Mem.ad,ah]
   obtain⟨h,ar⟩:=Qzz (Obj.cells #[j,aj,z,.pointer R,.pointer T,ak,ro,rc] 177);have x:=H.Lm ba h;have bn:Ca s=Ca d+Jp e.p+Ca k:=by rw[v,Nr,H9];omega
   have bh:=U0 d;have bm:=Vy e.p;have bk:=bl.q;have bg:D5 e.p.Ab<N:=by
    have:=bd.q;rw[v,CV,Kj,Ua]at this;omega
   -- what each way writes,and what follows
   have P:U (∀a,Wrote 104 B b ((r++Dc d)++K4 e.p) (wr.alloc h) a->a.cell? (g 9)=some (.pointer m)/\U (s=(d++[e.p])++k/\k.length=k.length/\Wrote 104 B b (r++Dc (d++[e.p])) w a/\Ce a W m k)):=V (λa f=>by
    obtain⟨br,au⟩:=Tw x.1;have bf:=(Sqj wr h g (Qq.1 q).1).trans q;refine⟨X (Xe f.2.2 au bf J J) 9 _ rfl,V ⟨by rw[v];simp,rfl,?_,(a2.alloc h).kept f.2.2 au J⟩⟩;have:=x.trans f;rw[zjz,<-Qp];simpa [Dc]using this)
   have L:U (K4 e.p=if j=8\/j=11 then e.p.text else if j=9\/j=10 then [32]else Dc e.p.Ab):=V (by rw[YL,af])
   have aq:U (Calls prog 60 #[.pointer (some b),z] (wr.alloc h) λC A=>C=.returned (.tuple #[z.size,.nilIface])/\Wrote 104 B b ((r++Dc d)++e.p.text) (wr.alloc h) A):=V (by
    have:=zl9 B b (r++Dc d) z (wr.alloc h) x.1 (by rw[<-Q,S.Bc,Qa];omega) (by simp;omega);rw[<-Q,S.Bq]at this;rw[<-Q];exact this)
   have ap:U (Calls prog 151 #[.pointer (some b),.int .u8 32] (wr.alloc h) λC A=>C=.returned .nilIface/\Wrote 104 B b ((r++Dc d)++[32]) (wr.alloc h) A):=V (zdi B b (r++Dc d) 32 (wr.alloc h) x.1 (by rw[Qa];omega) (by simp;omega));have bc:U (Calls prog 105 #[.pointer (some b),.agg #[.pointer R,.pointer T]] (wr.alloc h) λC A=>C=.returned (.tuple #[])/\Wrote 104 B b ((r++Dc d)++Dc e.p.Ab) (wr.alloc h) A):=V (bo.q (D5 e.p.Ab) bg e.p.Ab (Qc _) B b W R T (r++Dc d) (wr.alloc h) x.1 (by simp;omega) (by rw[Qa];omega) (by rw[<-ag];exact az.alloc h));have M:=V ai;have K:=V ar;clear v H q az a2 aw af ax Q a0 a6 a5 a3 ag x bn bh bm bk ai ar ah;rw[a8];clear a8;rcases Classical.em (j=8)with F|F
   ·subst F;have u:U (K4 e.p=e.p.text):=V (by rw[L.q,if_pos (.inl rfl)]);go_wp2_with (fail);rw[<-K.q];apply aq.m;rintro aa a⟨rfl,f⟩;obtain⟨o,p⟩:=P.q a (by rw[u.q];exact f);have t:=V (Oz g (.pointer m) a o ⟨_,rfl⟩);clear f o;go_wp2_with (fail);apply t.m;rintro ab ac⟨rfl,rfl⟩;go_wp2;go_roundg k.length
    case rel=>exact⟨d++[e.p],k,m,rfl,V ⟨p.q.1,rfl,p.q.2.2⟩⟩
    case measure=>
     have:=M.q;simp at this;omega
   rcases Classical.em (j=11)with E|E
   ·subst E;have u:U (K4 e.p=e.p.text):=V (by rw[L.q,if_pos (.inr rfl)]);go_wp2_with (fail);rw[<-K.q];apply aq.m;rintro aa a⟨rfl,f⟩;obtain⟨o,p⟩:=P.q a (by rw[u.q];exact f);have t:=V (Oz g (.pointer m) a o ⟨_,rfl⟩);clear f o;go_wp2_with (fail);apply t.m;rintro ab ac⟨rfl,rfl⟩;go_wp2;go_roundg k.length
    case rel=>exact⟨d++[e.p],k,m,rfl,V ⟨p.q.1,rfl,p.q.2.2⟩⟩
    case measure=>
     have:=M.q;simp at this;omega
   rcases Classical.em (j=9)with G|G
   ·subst G;have u:U (K4 e.p=[32]):=V (by rw[L.q,if_neg J,if_pos (.inl rfl)]);go_wp2_with (fail);rw[<-K.q];apply ap.m;rintro aa a⟨rfl,f⟩;obtain⟨o,p⟩:=P.q a (by rw[u.q];exact f);have t:=V (Oz g (.pointer m) a o ⟨_,rfl⟩);clear f o;go_wp2_with (fail);apply t.m;rintro ab ac⟨rfl,rfl⟩;go_wp2;go_roundg k.length
    case rel=>exact⟨d++[e.p],k,m,rfl,V ⟨p.q.1,rfl,p.q.2.2⟩⟩
    case measure=>
     have:=M.q;simp at this;omega
   rcases Classical.em (j=10)with D|D
   ·subst D;have u:U (K4 e.p=[32]):=V (by rw[L.q,if_neg J,if_pos (.inr rfl)]);go_wp2_with (fail);rw[<-K.q];apply ap.m;rintro aa a⟨rfl,f⟩;obtain⟨o,p⟩:=P.q a (by rw[u.q];exact f);have t:=V (Oz g (.pointer m) a o ⟨_,rfl⟩);clear f o;go_wp2_with (fail);apply t.m;rintro ab ac⟨rfl,rfl⟩;go_wp2;go_roundg k.length
    case rel=>exact⟨d++[e.p],k,m,rfl,V ⟨p.q.1,rfl,p.q.2.2⟩⟩
    case measure=>
     have:=M.q;simp at this;omega
   have u:U (K4 e.p=Dc e.p.Ab):=V (by rw[L.q,if_neg (λae=>ae.elim F E),if_neg (λae=>ae.elim G D)]);have bu:(j == 8)=false:=by rw[Qe];exact F
   have bt:(j == 11)=false:=by rw[Qe];exact E
   have bv:(j == 9)=false:=by rw[Qe];exact G
   have bs:(j == 10)=false:=by rw[Qe];exact D
   clear F E G D;go_wp2_with (fail);rw[<-K.q];apply bc.m;rintro aa a⟨rfl,f⟩;obtain⟨o,p⟩:=P.q a (by rw[u.q];exact f);have t:=V (Oz g (.pointer m) a o ⟨_,rfl⟩);clear f o;go_wp2_with (fail);apply t.m;rintro ab ac⟨rfl,rfl⟩;go_wp2;go_roundg k.length
   case rel=>exact⟨d++[e.p],k,m,rfl,V ⟨p.q.1,rfl,p.q.2.2⟩⟩
   case measure=>
    have:=M.q;simp at this;omega
theorem MW (ps:List Pt)(A:Nat->Prop)(a kl:So)(w:Sw)(x:Ca ps<=1000000000)(l:Ce w A a ps):Calls prog 79 #[.agg #[.pointer a,.pointer kl]] w λe D=>e=.returned (.string (S.B (Dc ps)))/\Below w w D:=by
 obtain⟨d,f⟩:=Qzz ((w.alloc (.cells #[.pointer a,.pointer kl] 135)).alloc (.cells #[.pointer none,Sx] 104));have o:(w.alloc (.cells #[.pointer a,.pointer kl] 135)).heap.size=(w:Nat)+1:=Y;have h:=Vm (w.alloc (.cells #[.pointer a,.pointer kl] 135));rw[<-f,o]at h;have m:Ce d A a ps:=by rw[f];exact(l.alloc _).alloc _
 have p:d.heap.size=(w:Nat)+2:=by rw[f];simp
 have k:Below w w d:=by rw[f];exact(Sr.alloc (Qc _) _).alloc Y _
 have t:=V (zjb (D5 ps) ps (Qc _) ((w:Nat)+1) ((w:Nat)+1) A a kl [] d h Z (by simpa using x) m);have E:d.cell? w=some (.pointer a):=by
  have:d.heap[w.heap.size]?=some (.cells #[.pointer a,.pointer kl] 135 (0,0)):=by rw[f,Sqj _ _ _ Y];exact Ak _ _
  exact X this 0 _ rfl
 have F:d.cell? (w 1)=some (.pointer kl):=by
  have:d.heap[w.heap.size]?=some (.cells #[.pointer a,.pointer kl] 135 (0,0)):=by rw[f,Sqj _ _ _ Y];exact Ak _ _
  exact X this 1 _ rfl
 have z:=V f;have v:=V k;have y:=V p;clear f h l m o k p;go_enter func79,ntmps79;go_wp2_with fail
 rw[<-z.q];apply t.m;rintro e q⟨rfl,g⟩;have C:(w:Nat)+1<=q.heap.size:=by have:=g.2.1.size;have:=y.q;omega
 have u:=V (Tryz.Tz ((w:Nat)+1) ((w:Nat)+1) _ q g.1 C);have r:=V g;clear g;go_wp2_with fail
 apply u.m;rintro e G⟨rfl,_,j,_⟩;have s:=V j;clear j;go_wp2;go_ret;refine⟨rfl,v.q.trans ((r.q.2.1.trans s.q).mono (Nat.le_succ _))⟩
theorem Dj (a:Array UInt8):(ByteArray.mk a).size=a.size:=rfl
theorem ZE {T:TypeId}{B b:Nat}{d:List Value}{w w':Sw}(a:Lib.IsBuilderF T 5 B b d w)(h:Below w w w'):Lib.IsBuilderF T 5 B b d w':=by
 have j:∀f,Lib.BuilderAtF T 5 B b f d w->Lib.BuilderAtF T 5 B b f d w':=by
  rintro f⟨l,k,g,m,o⟩;refine⟨l,k,(h.block b (Qq.1 g).1).trans g,m.kept (Below.Ll h) ?_,o⟩;cases q:k.ownBlock with
  |none=>exact .inl rfl
  |some p=>exact .inr Y
 rcases a with a|a
 ·exact .inl (j _ a)
 exact .inr (j _ a)
theorem Wrote.below {T:TypeId}{B b:Nat}{l:List UInt8}{w a w2:Sw}(d:Wrote T B b l w a)(f:Below a a w2)(h:B<=a):Wrote T B b l w w2:=
 ⟨ZE d.1 f,d.2.1.trans (f.mono h),d.2.2.trans (λj _ g _ _=>(f.block j (Qq.1 g).1).trans g)⟩
theorem Wrote.blk {T:TypeId}{B b:Nat}{l o:List UInt8}{w w':Sw}(f:Wrote T B b l w w')(k:Lib.IsBuilderF T 5 B b (Lib.byteCells o) w){d T2:Nat}{a:Array Value}(m:w.heap[d]?=some (.cells a T2 (0,0)))(h:T2≠T)(g:T2≠5):w'.heap[d]?=some (.cells a T2 (0,0)):=by
 obtain⟨p,j⟩:=Tw k;exact Xe f.2.2 j m h g
def LV (ps:List Pt):Prop:=∀(B b:Nat) (h:Nat->Prop) (g kl:So) (f:List UInt8) (a d:Sb) (w:Sw),Kn B b f w->B<=w.heap.size->f.length+a.size+30*Ca ps+d.size<=1000000000->Ce w h g ps ->
 Calls prog 227 #[.pointer (some b),a,.agg #[.pointer g,.pointer kl],d] w λe j=>e=.returned (.tuple #[])/\Wrote 124 B b (f++(a.data.toList++Ew ps++d.data.toList)) w j
theorem zby (p:Pt)(a1:LV p.Ab)(B b:Nat)(A:Nat->Prop)(C kl:So)(ax:Int)(ro rc:Bool)(l:List UInt8)(w:Sw)(bc:Kn B b l w)(bb:B<=w)(bf:l.length+30*Jp p<=1000000000)(a4:Ce w A C p.Ab):Calls prog 257 #[.pointer (some b),.agg #[p.kind,(S.B p.info),(S.B p.text),.pointer C,.pointer kl,ax,ro,rc]] w λe bv=>e=.returned (.tuple #[])/\Wrote 124 B b (l++Ij p) w bv:=by
 rw[Vy]at bf;have k:=V (YX p);obtain⟨m,bd⟩:∃h,p.kind=h:=⟨_,rfl⟩;rw[bd]at k ⊢;obtain⟨L,a3⟩:∃h,p.info=h:=⟨_,rfl⟩;obtain⟨M,a7⟩:∃h,p.text=h:=⟨_,rfl⟩;obtain⟨x,a6⟩:∃h,p.Ab=h:=⟨_,rfl⟩;rw[a3,a7,a6]at k bf;rw[a3,a7];rw[a6]at a1 a4;have b8:=S.Gu L;have b9:=S.Gu M;have ca:=S.Gu (Dc x);have cb:=U0 x;have cc:=Vs x;obtain⟨o,aq⟩:=Qzz (w.alloc (.cells #[m,(S.B L),(S.B M),.pointer C,.pointer kl,ax,ro,rc] 177));have P:Wrote 124 B b l w o:=by rw[aq];exact(Wrote.refl bc).Lm bb _
 have Q:o.heap[w.heap.size]?=some (.cells #[m,(S.B L),(S.B M),.pointer C,.pointer kl,ax,ro,rc] 177 (0,0)):=by rw[aq];exact Ak _ _
 have ac:B<=o:=Qj bb P.2.1.size;have a5:Ce o A C x:=by rw[aq];exact a4.alloc _
 have K:=V (Wrote.refl P.1);have r:U (∀f d,Wrote 124 B b f o d->d.heap[w.heap.size]?=some (.cells #[m,(S.B L),(S.B M),.pointer C,.pointer kl,ax,ro,rc] 177 (0,0))):=V (λf d j=>j.blk P.1 Q J J);have R:U (∀(f:List UInt8) (h:Sb) (d:Sw),Wrote 124 B b f o d->f.length+h.size<=1000000000->Calls prog 60 #[.pointer (some b),.string h] d λe s=>e=.returned (.tuple #[.int .i64 h.size,.nilIface])/\Wrote 124 B b (f++h.data.toList) o s):=V (λf h d j H=>(pwrite B b f h d j.1 H (Qj ac j.2.1.size)).mono (λe s ⟨D,E⟩=>⟨D,j.trans E⟩));have bt:U (∀(f:List UInt8) (h:UInt8) (d:Sw),Wrote 124 B b f o d->f.length+1<=1000000000->Calls prog 151 #[.pointer (some b),.int .u8 (h.toNat:Int)] d λe s=>e=.returned .nilIface/\Wrote 124 B b (f++[h]) o s):=V (λf h d j H=>(DV B b f h d j.1 H (Qj ac j.2.1.size)).mono (λe s ⟨D,E⟩=>⟨D,j.trans E⟩));have ar:U (∀(f h:List UInt8) (d:Sw),Wrote 124 B b f o d->f.length+6*h.length<=1000000000->Calls prog 195 #[.pointer (some b),(S.B h)] d λe s=>e=.returned (.tuple #[])/\Wrote 124 B b (f++S.Bd h) o s):=V (λf h d j H=>by
  have:=WC B b f (S.B h) d j.1 (by rw[S.Bc];exact H) (Qj ac j.2.1.size);rw[S.Bq]at this;exact this.mono (λe s ⟨D,E⟩=>⟨D,j.trans E⟩))
 have a8:U (∀(f:List UInt8) (ag ah:Sb) (d:Sw),Wrote 124 B b f o d->f.length+ag.size+30*Ca x+ah.size<=1000000000->Calls prog 227 #[.pointer (some b),ag,.agg #[.pointer C,.pointer kl],ah] d λe s=>e=.returned (.tuple #[])/\Wrote 124 B b (f++(ag.data.toList++Ew x++ah.data.toList)) o s):=V (λf ag ah d j H=>by
  obtain⟨bs,a2⟩:=Tw P.1;exact(a1 B b A C kl f ag ah d j.1 (Qj ac j.2.1.size) H (a5.kept j.2.2 a2 J)).mono (λe s ⟨D,E⟩=>⟨D,j.trans E⟩))
 have bu:U (∀(f:List UInt8) (d:Sw),Wrote 124 B b f o d->Calls prog 79 #[.agg #[.pointer C,.pointer kl]] d λe s=>e=.returned (.string (S.B (Dc x)))/\Wrote 124 B b f o s):=V (λf d j=>by
  obtain⟨bs,a2⟩:=Tw P.1;refine(MW x A C kl d Z (a5.kept j.2.2 a2 J)).mono ?_;rintro e s⟨D,E⟩;exact⟨D,j.below E (Qj ac j.2.1.size)⟩)
 have G:U (∀f d,Wrote 124 B b f o d->f=l++Ij p->Wrote 124 B b (l++Ij p) w d):=V (λf d j H=>by rw[<-H];exact P.trans j);have F:=V aq;have cg:=X Q 0 _ rfl;have ch:=X Q 1 _ rfl;have ci:=X Q 2 _ rfl;have cj:=X Q 3 _ rfl;have ck:=X Q 4 _ rfl;clear bc a5 a4 a1 Q ac P bd a3 a7 a6 aq;rcases Classical.em (m=8)with ao|ao
 ·subst ao;have q:U (Ij p=S.Bd M):=V (by rw[k.q];rfl);clear k;go_enter func257,ntmps257;go_wp2_with fail
  rw[<-F.q];refine(ar.q _ M _ K.q (by(try simp only[Qa,Qd,Qi])<;>omega)).mono ?_
  rintro N d⟨rfl,g⟩;have a:=r.q _ _ g;have T:=X a 1 _ rfl;have W:=X a 2 _ rfl;have aa:=X a 3 _ rfl;have ab:=X a 4 _ rfl;have v:=V g;clear g a;go_wp2;go_end0;exact⟨rfl,G.q _ _ v.q (by rw[q.q]<;>simp)⟩
 rcases Classical.em (m=9)with ap|ap
 ·subst ap;have q:U (Ij p=[10]):=V (by rw[k.q];rfl);clear k;go_enter func257,ntmps257;go_wp2_with fail
  rw[<-F.q];refine(bt.q _ 10 _ K.q (by(try simp only[Qa,Qd,Qi])<;>omega)).mono ?_
  rintro N d⟨rfl,g⟩;have a:=r.q _ _ g;have T:=X a 1 _ rfl;have W:=X a 2 _ rfl;have aa:=X a 3 _ rfl;have ab:=X a 4 _ rfl;have v:=V g;clear g a;go_wp2;go_end0;exact⟨rfl,G.q _ _ v.q (by rw[q.q]<;>simp)⟩
 rcases Classical.em (m=10)with ai|ai
 ·subst ai;have q:U (Ij p=[60,98,114,62,10]):=V (by rw[k.q];rfl);clear k;go_enter func257,ntmps257;go_wp2_with fail
  rw[<-F.q];refine(R.q _ ⟨#[60,98,114,62,10]⟩ _ K.q (by(try simp only[Dj,Qba,Qd,Qi])<;>omega)).mono ?_
  rintro N d⟨rfl,g⟩;have a:=r.q _ _ g;have T:=X a 1 _ rfl;have W:=X a 2 _ rfl;have aa:=X a 3 _ rfl;have ab:=X a 4 _ rfl;have v:=V g;clear g a;go_wp2;go_end0;exact⟨rfl,G.q _ _ v.q (by rw[q.q]<;>simp)⟩
 rcases Classical.em (m=11)with aj|aj
 ·subst aj;have q:U (Ij p=[60,99,111,100,101,62]++S.Bd M++[60,47,99,111,100,101,62]):=V (by rw[k.q];rfl);clear k;go_enter func257,ntmps257;go_wp2_with fail
  rw[<-F.q];refine(R.q _ ⟨#[60,99,111,100,101,62]⟩ _ K.q (by(try simp only[Dj,Qba,Qd,Qi])<;>omega)).mono ?_
  rintro N d⟨rfl,g⟩;have a:=r.q _ _ g;have T:=X a 1 _ rfl;have W:=X a 2 _ rfl;have aa:=X a 3 _ rfl;have ab:=X a 4 _ rfl;have v:=V g;clear g a;go_wp2_with fail
  refine(ar.q _ M _ v.q (by(try simp only[Qa,Qd,Qi])<;>omega)).mono ?_
  rintro a9 s⟨rfl,y⟩;have t:=r.q _ _ y;have bh:=X t 1 _ rfl;have bi:=X t 2 _ rfl;have bj:=X t 3 _ rfl;have bk:=X t 4 _ rfl;have ae:=V y;clear y t;go_wp2_with fail
  refine(R.q _ ⟨#[60,47,99,111,100,101,62]⟩ _ ae.q (by(try simp only[Dj,Qba,Qa,Qd,Qi])<;>omega)).mono ?_
  rintro ba bg⟨rfl,z⟩;have u:=r.q _ _ z;have bl:=X u 1 _ rfl;have bm:=X u 2 _ rfl;have bn:=X u 3 _ rfl;have bo:=X u 4 _ rfl;have af:=V z;clear z u;go_wp2;go_end0;exact⟨rfl,G.q _ _ af.q (by rw[q.q]<;>simp)⟩
 rcases Classical.em (m=12)with ak|ak
 ·subst ak;have q:U (Ij p=[60,97,32,104,114,101,102,61,34]++S.Bd L++([34,62]++Ew x++[60,47,97,62])):=V (by rw[k.q];rfl);clear k;go_enter func257,ntmps257;go_wp2_with fail
  rw[<-F.q];refine(R.q _ ⟨#[60,97,32,104,114,101,102,61,34]⟩ _ K.q (by(try simp only[Dj,Qba,Qd,Qi])<;>omega)).mono ?_
  rintro N d⟨rfl,g⟩;have a:=r.q _ _ g;have T:=X a 1 _ rfl;have W:=X a 2 _ rfl;have aa:=X a 3 _ rfl;have ab:=X a 4 _ rfl;have v:=V g;clear g a;go_wp2_with fail
  refine(ar.q _ L _ v.q (by(try simp only[Qa,Qd,Qi])<;>omega)).mono ?_
  rintro a9 s⟨rfl,y⟩;have t:=r.q _ _ y;have bh:=X t 1 _ rfl;have bi:=X t 2 _ rfl;have bj:=X t 3 _ rfl;have bk:=X t 4 _ rfl;have ae:=V y;clear y t;go_wp2_with fail
  refine(a8.q _ ⟨#[34,62]⟩ ⟨#[60,47,97,62]⟩ _ ae.q (by(try simp only[Dj,Qba,Qa,Qd,Qi])<;>omega)).mono ?_
  rintro ba bg⟨rfl,z⟩;have u:=r.q _ _ z;have bl:=X u 1 _ rfl;have bm:=X u 2 _ rfl;have bn:=X u 3 _ rfl;have bo:=X u 4 _ rfl;have af:=V z;clear z u;go_wp2;go_end0;exact⟨rfl,G.q _ _ af.q (by rw[q.q]<;>simp)⟩
 rcases Classical.em (m=13)with al|al
 ·subst al;have q:U (Ij p=[60,105,109,103,32,115,114,99,61,34]++S.Bd L++[34,32,97,108,116,61,34]++S.Bd (Dc x)++[34,62]):=V (by rw[k.q];rfl);clear k;go_enter func257,ntmps257;go_wp2_with fail
  rw[<-F.q];refine(R.q _ ⟨#[60,105,109,103,32,115,114,99,61,34]⟩ _ K.q (by(try simp only[Dj,Qba,Qd,Qi])<;>omega)).mono ?_
  rintro N d⟨rfl,g⟩;have a:=r.q _ _ g;have T:=X a 1 _ rfl;have W:=X a 2 _ rfl;have aa:=X a 3 _ rfl;have ab:=X a 4 _ rfl;have v:=V g;clear g a;go_wp2_with fail
  refine(ar.q _ L _ v.q (by(try simp only[Qa,Qd,Qi])<;>omega)).mono ?_
  rintro a9 s⟨rfl,y⟩;have t:=r.q _ _ y;have bh:=X t 1 _ rfl;have bi:=X t 2 _ rfl;have bj:=X t 3 _ rfl;have bk:=X t 4 _ rfl;have ae:=V y;clear y t;go_wp2_with fail
  refine(R.q _ ⟨#[34,32,97,108,116,61,34]⟩ _ ae.q (by(try simp only[Dj,Qba,Qa,Qd,Qi])<;>omega)).mono ?_
  rintro ba bg⟨rfl,z⟩;have u:=r.q _ _ z;have bl:=X u 1 _ rfl;have bm:=X u 2 _ rfl;have bn:=X u 3 _ rfl;have bo:=X u 4 _ rfl;have af:=V z;clear z u;go_wp2_with fail
  refine(bu.q _ _ af.q).mono ?_;rintro b3 cd⟨rfl,ay⟩;have au:=r.q _ _ ay;have cl:=X au 1 _ rfl;have cm:=X au 2 _ rfl;have cn:=X au 3 _ rfl;have co:=X au 4 _ rfl;have bp:=V ay;clear ay au;go_wp2_with fail
  refine(ar.q _ (Dc x) _ bp.q (by(try simp only[Qa,Qd,Qi])<;>omega)).mono ?_
  rintro b4 ce⟨rfl,az⟩;have av:=r.q _ _ az;have cp:=X av 1 _ rfl;have cq:=X av 2 _ rfl;have cr:=X av 3 _ rfl;have cs:=X av 4 _ rfl;have bq:=V az;clear az av;go_wp2_with fail
  refine(R.q _ ⟨#[34,62]⟩ _ bq.q (by(try simp only[Dj,Qba,Qa,Qd,Qi])<;>omega)).mono ?_
  rintro b5 cf⟨rfl,a0⟩;have aw:=r.q _ _ a0;have ct:=X aw 1 _ rfl;have cu:=X aw 2 _ rfl;have cv:=X aw 3 _ rfl;have cw:=X aw 4 _ rfl;have br:=V a0;clear a0 aw;go_wp2;go_end0;exact⟨rfl,G.q _ _ br.q (by rw[q.q]<;>simp)⟩
 rcases Classical.em (m=14)with am|am
 ·subst am;have q:U (Ij p=[60,101,109,62]++Ew x++[60,47,101,109,62]):=V (by rw[k.q];rfl);clear k;go_enter func257,ntmps257;go_wp2_with fail
  rw[<-F.q];refine(a8.q _ ⟨#[60,101,109,62]⟩ ⟨#[60,47,101,109,62]⟩ _ K.q (by(try simp only[Dj,Qba,Qd,Qi])<;>omega)).mono ?_
  rintro N d⟨rfl,g⟩;have a:=r.q _ _ g;have T:=X a 1 _ rfl;have W:=X a 2 _ rfl;have aa:=X a 3 _ rfl;have ab:=X a 4 _ rfl;have v:=V g;clear g a;go_wp2;go_end0;exact⟨rfl,G.q _ _ v.q (by rw[q.q]<;>simp)⟩
 rcases Classical.em (m=15)with an|an
 ·subst an;have q:U (Ij p=[60,115,116,114,111,110,103,62]++Ew x++[60,47,115,116,114,111,110,103,62]):=V (by rw[k.q];rfl);clear k;go_enter func257,ntmps257;go_wp2_with fail
  rw[<-F.q];refine(a8.q _ ⟨#[60,115,116,114,111,110,103,62]⟩ ⟨#[60,47,115,116,114,111,110,103,62]⟩ _ K.q (by(try simp only[Dj,Qba,Qd,Qi])<;>omega)).mono ?_
  rintro N d⟨rfl,g⟩;have a:=r.q _ _ g;have T:=X a 1 _ rfl;have W:=X a 2 _ rfl;have aa:=X a 3 _ rfl;have ab:=X a 4 _ rfl;have v:=V g;clear g a;go_wp2;go_end0;exact⟨rfl,G.q _ _ v.q (by rw[q.q]<;>simp)⟩
 have q:U (Ij p=[]):=V (by rw[k.q,if_neg ao,if_neg ap,if_neg ai,if_neg aj,if_neg ak,if_neg al,if_neg am,if_neg an]);have b6:(m == 8)=false:=by rw[Qe];exact ao
 have b7:(m == 9)=false:=by rw[Qe];exact ap
 have bw:(m == 10)=false:=by rw[Qe];exact ai
 have bx:(m == 11)=false:=by rw[Qe];exact aj
 have bz:(m == 12)=false:=by rw[Qe];exact ak
 have b0:(m == 13)=false:=by rw[Qe];exact al
 have b1:(m == 14)=false:=by rw[Qe];exact am
 have b2:(m == 15)=false:=by rw[Qe];exact an
 clear ao ap ai aj ak al am an;clear k;go_enter func257,ntmps257;go_wp2;rw[<-F.q];go_end0;exact⟨rfl,G.q _ _ K.q (by rw[q.q]<;>simp)⟩
theorem zae (N:Nat):∀(j:List Pt),D5 j<=N->LV j:=by
 induction N using Nat.strongRecOn with
 |_ N ax=>
 intro j ae B b v q kl r m y w af D an ak;obtain⟨l,x⟩:=Qzz (w.alloc (.cells #[.pointer q,.pointer kl] 135));have u:Wrote 124 B b r w l:=by rw[x];exact(Wrote.refl af).Lm D _
 have ac:l.heap[w.heap.size]?=some (.cells #[.pointer q,.pointer kl] 135 (0,0)):=by rw[x];exact Ak _ _
 have al:Ce l v q j:=by rw[x];exact ak.alloc _
 have aa:B<=l:=Qj D u.2.1.size;have ba:U (Calls prog 60 #[.pointer (some b),m] l λe a=>e=.returned (.tuple #[m.size,.nilIface])/\a.heap[w.heap.size]?=some (.cells #[.pointer q,.pointer kl] 135 (0,0))/\U (Wrote 124 B b (r++(m.data.toList++Ew [])) w a/\Ce a v q j)):=V ((pwrite B b r m l u.1 Z aa).mono (λe a ⟨C,f⟩=>⟨C,f.blk u.1 ac J J,V ⟨by simpa [Ew]using u.trans f,by
  obtain⟨a4,z⟩:=Tw u.1;exact al.kept f.2.2 z J⟩⟩))
 have bj:=V ax;have a8:=V ae;have bg:=V an;have bc:=V x;clear af ak ax ae an x u ac al aa;go_enter func227,ntmps227;go_wp2_with fail
 rw[<-bc.q];apply ba.m;rintro e bm⟨rfl,ag,au⟩;have a7:=V (U3 w 0 (.pointer q) bm (X ag 0 _ rfl) ⟨_,rfl⟩);clear ag;go_wp2_with fail
 apply a7.m;rintro e bx⟨rfl,rfl⟩;go_wp2;go_loopg [8] j.length (λbk bl wr=>∃(k rs:List Pt) (T:So),bl=.pointer T/\U (j=k++rs/\rs.length=bk/\Wrote 124 B b (r++(m.data.toList++Ew k)) w wr/\Ce wr v T rs))
 case atStart=>exact⟨[],j,q,rfl,V ⟨rfl,rfl,au.q.1,au.q.2⟩⟩
 case round=>
  obtain⟨k,rs,T,rfl,ar⟩:=hrel;obtain⟨p,M,o,bf⟩:=ar.q;clear ar;have ab:B<=wr:=Qj D o.2.1.size;have ao:=bg.q;have aj:=Vs k;cases bf with
  |nil=>
   rw[Qbk]at p;have a9:U (Calls prog 60 #[.pointer (some b),y] wr λe a=>e=.returned (.tuple #[y.size,.nilIface])/\U (Wrote 124 B b (r++(m.data.toList++Ew j++y.data.toList)) w a)):=V ((pwrite B b _ y wr o.1 (by subst p;simp only[Qa,S.lda];omega) ab).mono (λe a ⟨C,f⟩=>⟨C,V (by
    have:=o.trans f;subst p;simpa [List.append_assoc]using this)⟩))
   clear p M o ao aj;go_wp2_with (fail);apply a9.m;rintro a5 a⟨rfl,f⟩;go_wp2;go_end0;exact⟨rfl,f.q⟩
  |cons e W t s bo h am ap=>
   have bi:Ca j=Ca k+Jp e.p+Ca s:=by rw[p,Nr,H9];omega
   have bd:D5 e.p.Ab<N:=by
    have:=a8.q;rw[p,CV,Kj,Ua]at this;omega
   have E:=zby e.p (bj.q (D5 e.p.Ab) bd e.p.Ab (Qc _)) B b v e.kf e.kl (e.p.rs:Nat) e.p.ro e.p.rc _ wr o.1 ab (by simp only[Qa,S.lda];omega) am;have av:U (∀a,Wrote 124 B b ((r++(m.data.toList++Ew k))++Ij e.p) wr a->a.cell? (e.m 9)=some (.pointer t)/\U (j=(k++[e.p])++s/\s.length=s.length/\Wrote 124 B b (r++(m.data.toList++Ew (k++[e.p]))) w a/\Ce a v t s)):=V (λa f=>by
    obtain⟨a4,z⟩:=Tw o.1;refine⟨X (Xe f.2.2 z h J J) 9 _ rfl,V ⟨by rw[p];simp,rfl,?_,ap.kept f.2.2 z J⟩⟩;have:=o.trans f;rw[zgl];simpa [Ew,List.append_assoc]using this)
   obtain⟨az,G⟩:∃d,e.p.kind=d:=⟨_,rfl⟩;obtain⟨ay,F⟩:∃d,S.B e.p.info=d:=⟨_,rfl⟩;obtain⟨a3,R⟩:∃d,S.B e.p.text=d:=⟨_,rfl⟩;obtain⟨g,A⟩:=Qyy (e.m);obtain⟨a0,H⟩:∃d,e.kf=d:=⟨_,rfl⟩;obtain⟨a1,K⟩:∃d,e.kl=d:=⟨_,rfl⟩;obtain⟨a2,Q⟩:∃d:Int,((e.p.rs:Nat):Int)=d:=⟨_,rfl⟩;obtain⟨ro,P⟩:∃d,e.p.ro=d:=⟨_,rfl⟩;obtain⟨rc,L⟩:∃d,e.p.rc=d:=⟨_,rfl⟩;have ai:Jc e W t=[.int .i64 az,.string ay,.string a3,.pointer a0,.pointer a1,.int .i64 a2,.bool ro,.bool rc,.pointer W,.pointer t]:=by
    unfold Jc;rw[G,F,R,H,K,Q,P,L]
   rw[ai,A]at h;rw[G,F,R,H,K,Q,P,L]at E;rw[A]at av;have bp:wr.cell? g=some (.int .i64 az):=X h 0 _ rfl;have bq:wr.cell? (g 1)=some (.string ay):=X h 1 _ rfl;have br:wr.cell? (g 2)=some (.string a3):=X h 2 _ rfl;have bs:wr.cell? (g 3)=some (.pointer a0):=X h 3 _ rfl;have bt:wr.cell? (g 4)=some (.pointer a1):=X h 4 _ rfl;have bu:wr.cell? (g 5)=some (.int .i64 a2):=X h 5 _ rfl;have bv:wr.cell? (g 6)=some (.bool ro):=X h 6 _ rfl;have bw:wr.cell? (g 7)=some (.bool rc):=X h 7 _ rfl;have aw:(some e.ad:So)=some ⟨g,0,none⟩:=by rw[Mem.ad,A]
   have bb:=V E;have bh:=V M;clear p o h am ap ai G F R K Q P L H bi aj ao M A E;rw[aw];clear aw;go_wp2_with (fail);apply bb.m;rintro a5 a⟨rfl,f⟩;obtain⟨ah,aq⟩:=av.q a f;have a6:=V (Oz g (.pointer t) a ah ⟨_,rfl⟩);clear f ah;go_wp2_with (fail);apply a6.m;rintro bn bz⟨rfl,rfl⟩;go_wp2;go_roundg s.length
   case rel=>exact⟨k++[e.p],s,t,rfl,V ⟨aq.q.1,rfl,aq.q.2.2⟩⟩
   case measure=>
    have:=bh.q;simp at this;omega
theorem zj0 (B b:Nat)(l:List UInt8)(d:Sb)(c:List UInt8)(f:Sb)(w:Sw)(q:Kn B b l w)(o:B<=w)(r:Env w)(A:c.length<=300000)(C:l.length+d.size+90*c.length+f.size<=1000000000):Calls prog 192 #[.pointer (some b),d,(S.B c),f] w λe k=>e=.returned (.tuple #[])/\Wrote 124 B b (l++(d.data.toList++Bg c++f.data.toList)) w k:=by
 have m:=GA (S.B c) w (by rw[S.Bc];omega) r;rw[S.Bq]at m;have z:=Y1 c;have y:U (∀g kl a,Ce a (Tag a) g (Ey c)->Below w w a->Calls prog 227 #[.pointer (some b),d,.agg #[.pointer g,.pointer kl],f] a λe k=>e=.returned (.tuple #[])/\U (Wrote 124 B b (l++(d.data.toList++Bg c++f.data.toList)) w k)):=V (λg kl a j h=>by
  have p:=(Wrote.refl q).below h o;exact(zae _ (Ey c) (Qc _) B b (Tag a) g kl l d f a p.1 (Qj o h.size) Z j).mono (λe k ⟨s,t⟩=>⟨s,V (p.trans t)⟩))
 have v:=V m;clear m q r z;go_enter func192,ntmps192;go_wp2_with fail
 apply v.m;rintro e a⟨g,kl,rfl,j,h⟩;have x:=V (y.q g kl a j h);clear j h;go_wp2_with fail
 apply x.m;rintro e D⟨rfl,u⟩;go_wp2;go_end0;exact⟨rfl,u.q⟩
mutual
def Eo:S.Ac->Nat
 |.at_ _ _ _ i d _ Ab=>120+6*i.length+96*d.length+Bo Ab
def Bo:List S.Ac->Nat
 |[]=>0
 |b::a=>Eo b+Bo a
end
mutual
def Gl:S.Ac->Prop
 |.at_ _ _ n i d _ Ab=>-9223372036854775808<=n/\n<=9223372036854775807/\i.length<=300000/\d.length<=300000/\C9 Ab
def C9:List S.Ac->Prop
 |[]=>True
 |b::a=>Gl b/\C9 a
end
theorem N7 (b:S.Ac):Eo b=120+6*b.info.length+96*b.text.length+Bo b.Ab:=by cases b;simp only[Eo];rfl
theorem VZ (a b:List S.Ac):Bo (a++b)=Bo a+Bo b:=by
 induction a with
 |nil=>simp[Bo]
 |cons f g d=>simp only[List.cons_append,Bo,d];omega
theorem Rw (a:List S.Ac)(k:Nat)(t:S.Ac)(d:a[k]?=some t):Bo (a.take (k+1))=Bo (a.take k)+Eo t:=by
 rw[Sv,d,VZ];simp[Bo]
theorem Ls (a:List S.Ac)(k:Nat):Bo (a.take k)<=Bo a:=by
 conv=>rhs;rw[<-Sy k a,VZ]
 omega
theorem Rm (f:List S.Ac)(d:C9 f)(i:Nat)(t:S.Ac)(a:f[i]?=some t):Gl t:=by
 induction f generalizing i with
 |nil=>simp at a
 |cons b h g=>
  simp only[C9]at d;cases i with
  |zero=>simp at a;subst a;exact d.1
  |succ i=>exact g d.2 i (by simpa using a)
theorem Uy (a:List S.Ac)(d:C9 a)(k:Nat):C9 (a.take k):=by
 induction a generalizing k with
 |nil=>simp[C9]
 |cons b g f=>
  cases k with
  |zero=>simp[C9]
  |succ k=>simp only[C9,Qz]at *;exact⟨d.1,f d.2 k⟩
theorem EB (n:Int):(I4 n).length=2:=by unfold I4;split<;>rfl
theorem VW (l:List UInt8):(S.word l).length<=l.length:=by
 unfold S.word Lib.cut;split<;>simp<;>omega
theorem JE (n:Int)(a : -9223372036854775808<=n)(d:n<=9223372036854775807):(J7 n).length<=40:=by
 have:=Lib.itoa_length_le n a d;unfold J7;split;·simp only[Qa,Qd,Qi];omega
 simp
mutual
theorem OG (d:Bool):∀b:S.Ac,Gl b->(Gs Bg d b).length<=Eo b
 |.at_ o m n i j l Ab=>by
  intro a;simp only[Gl]at a;have g:=O1 false Ab a.2.2.2.2;have k:=Vv (!l) Ab a.2.2.2.2;have p:=zh4 j;have q:=Lib.itoa_length_le n a.1 a.2.1;have r:=S.Gu (S.word i);have s:=VW i;have t:=S.Gu j;have u:=EB n;have v:=JE n a.1 a.2.1;simp only[Gs,Eo];(repeat' split)<;>(try simp only[Qa,Qd,Qi])<;>omega
theorem O1 (d:Bool):∀f:List S.Ac,C9 f->(Cy Bg d f).length<=Bo f
 |[]=>by intro _;simp[Cy]
 |b::h=>by
  intro a;simp only[C9]at a;have g:=OG d b a.1;have k:=O1 d h a.2;simp only[Cy,Qa,Bo];omega
theorem Vv (d:Bool):∀f:List S.Ac,C9 f->(Es Bg d f).length<=Bo f
 |[]=>by intro _;simp[Es]
 |b::h=>by
  intro a;simp only[C9]at a;have g:=zcn d b a.1;have k:=Vv d h a.2;simp only[Es,Qa,Bo];omega
theorem zcn (d:Bool):∀b:S.Ac,Gl b->(Oe Bg d b).length<=Eo b
 |.at_ o m n i j l Ab=>by
  intro a;simp only[Gl]at a;have g:=O1 d Ab a.2.2.2.2;simp only[Oe,Eo,Qa,Qd,Qi];omega
end
theorem XF (a:Bool)(d:List S.Ac)(k:Nat)(t:S.Ac)(f:d[k]?=some t):Cy Bg a (d.take (k+1))=Cy Bg a (d.take k)++Gs Bg a t:=by
 rw[Sv,f,ZK];simp[Cy]
theorem FI (a:Bool)(d:List S.Ac)(k:Nat)(t:S.Ac)(f:d[k]?=some t):Es Bg a (d.take (k+1))=Es Bg a (d.take k)++Oe Bg a t:=by
 rw[Sv,f,zjc];simp[Es]
def Cv (B : Nat)(w : World) : Prop := Env w ∧ (3 < B ∧ 0 < B) ∧ Lib.TabIs prog w "internal/strconv.uint64pow10" .u64 Lib.pow10Tab ∧ ∃ a, prog.globalNamed "internal/strconv.uint64pow10" = some a ∧ a < B
theorem Cv.below {B:Nat}{w w':Sw}(l:Cv B w)(k:Below B w w'):Cv B w':=by
 obtain⟨m,⟨f,g⟩,a,d,h,j⟩:=l;refine⟨m.JU f g k,⟨f,g⟩,?_,d,h,j⟩;unfold Lib.TabIs World.var? at *;rw[h]at a ⊢;simp only[Option.bind_some]at a ⊢;rw[k.block d j];exact a
theorem Wrote.w {B b:Nat}{l:List UInt8}{w f:Sw}(d:Wrote 124 B b l w f)(j:B<=w)(a:Sb)(k:l.length+a.size<=1000000000):Calls prog 60 #[.pointer (some b),a] f λe m=>e=.returned (.tuple #[a.size,.nilIface])/\Wrote 124 B b (l++a.data.toList) w m:=
 (pwrite B b l a f d.1 k (Qj j d.2.1.size)).mono (λ_ _ ⟨g,h⟩=>⟨g,d.trans h⟩)
theorem Wrote.b {B b:Nat}{l:List UInt8}{w d:Sw}(a:Wrote 124 B b l w d)(j:B<=w)(f:UInt8)(k:l.length+1<=1000000000):Calls prog 151 #[.pointer (some b),.int .u8 (f.toNat:Int)] d λe m=>e=.returned .nilIface/\Wrote 124 B b (l++[f]) w m:=
 (DV B b l f d a.1 k (Qj j a.2.1.size)).mono (λ_ _ ⟨g,h⟩=>⟨g,a.trans h⟩)
theorem Wrote.e {B b:Nat}{l:List UInt8}{w f:Sw}(d:Wrote 124 B b l w f)(j:B<=w)(a:Sb)(k:l.length+6*a.size<=1000000000):Calls prog 195 #[.pointer (some b),a] f λe m=>e=.returned (.tuple #[])/\Wrote 124 B b (l++S.Bd a) w m:=
 (WC B b l a f d.1 k (Qj j d.2.1.size)).mono (λ_ _ ⟨g,h⟩=>⟨g,d.trans h⟩)
theorem Wrote.c {B b:Nat}{l:List UInt8}{w g:Sw}(f:Wrote 124 B b l w g)(k:B<=w)(o:Cv B w)(a:Sb)(c:List UInt8)(d:Sb)(m:c.length<=300000)(p:l.length+a.size+90*c.length+d.size<=1000000000):Calls prog 192 #[.pointer (some b),a,(S.B c),d] g λe q=>e=.returned (.tuple #[])/\Wrote 124 B b (l++(a.data.toList++Bg c++d.data.toList)) w q:=
 (zj0 B b l a c d g f.1 (Qj k f.2.1.size) (o.below f.2.1).1 m p).mono (λ_ _ ⟨h,j⟩=>⟨h,f.trans j⟩)
theorem Wrote.i {B b:Nat}{l:List UInt8}{w a:Sw}(d:Wrote 124 B b l w a)(j:B<=w)(k:Cv B w)(n:Int)(g : -9223372036854775808<=n)(h:n<=9223372036854775807):Calls prog 193 #[n] a λe f=>e=.returned (.string (S.B (Lib.itoa n)))/\Wrote 124 B b l w f:=by
 refine(Tryz.strconv_Itoa n g h a (k.below d.2.1).2.2.1).mono ?_;rintro e f⟨rfl,m,o,rfl⟩;exact⟨rfl,d.below (Lib.below_grow _ a (Qc _) m o) (Qj j d.2.1.size)⟩
theorem zhn (w:Sw)(n:Nat):Below w w (w.drewN n):=by
 induction n with
 |zero=>exact Sr
 |succ n a=>exact Below.drew a
theorem Ph (a d:Sb):(a++d).data.toList=a.data.toList++d.data.toList:=by simp[ByteArray.data_append]
theorem Ol (a d:Sb):(a++d).size=a.size+d.size:=by simp[ByteArray.size_append]
theorem zmy (B b:Nat)(l:List UInt8)(w:Sw)(F:Kn B b l w)(C:B<=w)(L:Cv B w)(k t:Int)(r:So)(u s:Nat)(n:Int)(info text:List UInt8)(Ai:Bool)(o:So)(q p:Nat)(A:Bool)(G:text.length<=300000)(T:l.length+120+6*info.length+96*text.length<=1000000000):Calls prog 147 #[.pointer (some b),.agg #[k,t,.slice r u s,n,(S.B info),(S.B text),Ai,.slice o q p],A] w λe Q=>e=.returned (.tuple #[])/\Wrote 124 B b (l++(if A=true then Bg text++[10]else [60,112,62]++Bg text++[60,47,112,62,10])) w Q:=by
 obtain⟨f,x⟩:=Qzz (w.alloc (.cells #[k,t,.slice r u s,n,(S.B info),(S.B text),Ai,.slice o q p] 110));have h:Wrote 124 B b l w f:=by rw[x];exact(Wrote.refl F).Lm C _
 have g:f.heap[w.heap.size]?=some (.cells #[k,t,.slice r u s,n,(S.B info),(S.B text),Ai,.slice o q p] 110 (0,0)):=by rw[x];exact Ak _ _
 have P:U (∀d a,Wrote 124 B b d w a->Wrote 124 B b d f a->a.heap[w.heap.size]?=some (.cells #[k,t,.slice r u s,n,(S.B info),(S.B text),Ai,.slice o q p] 110 (0,0))):=V (λd a _ j=>j.blk h.1 g J J);have D:B<=f:=Qj C h.2.1.size;have H:=L.below h.2.1;have N:=V (Wrote.refl h.1);have M:U (∀d a,Wrote 124 B b d f a->Wrote 124 B b d w a):=V (λd a j=>h.trans j);have R:U (∀d a,Wrote 124 B b d f a->a.heap[w.heap.size]?=some (.cells #[k,t,.slice r u s,n,(S.B info),(S.B text),Ai,.slice o q p] 110 (0,0))):=V (λd a j=>j.blk h.1 g J J);have E:=V x;have K:=V H;have W:=X g 3 _ rfl;have aa:=X g 4 _ rfl;have ab:=X g 5 _ rfl;have ac:=X g 6 _ rfl;have ae:=X g 7 _ rfl;clear F g h x P H L;cases A
 ·have z:=V (N.q.c D K.q ⟨#[60,112,62]⟩ text ⟨#[60,47,112,62,10]⟩ G (by rw[Dj,Dj];simp only[Qba,Qd,Qi];omega));go_enter func147,ntmps147;go_wp2_with fail
  rw[<-E.q];apply z.m;rintro e a⟨rfl,m⟩;have y:=V m;clear m;go_wp2;go_end0;exact⟨rfl,M.q _ _ y.q⟩
 have z:=V (N.q.c D K.q ⟨#[]⟩ text ⟨#[10]⟩ G (by rw[Dj,Dj];simp only[Qba,Qd,Qi];omega));go_enter func147,ntmps147;go_wp2_with fail
 rw[<-E.q];apply z.m;rintro e a⟨rfl,m⟩;have y:=V m;clear m;go_wp2;refine Sqk (v:=.tuple #[]) (by simp[results,results147,go_sem]) rfl ?_;exact⟨rfl,by have:=M.q _ _ y.q;simpa using this⟩
theorem zfa (B b:Nat)(l:List UInt8)(w:Sw)(G:Kn B b l w)(D:B<=w)(L:Cv B w)(k s:Int)(q:So)(t r:Nat)(n:Int)(info text:List UInt8)(Ai:Bool)(m:So)(p o:Nat)(A : -9223372036854775808<=n)(C:n<=9223372036854775807)(R:text.length<=300000)(af:l.length+120+6*info.length+96*text.length<=1000000000):Calls prog 148 #[.pointer (some b),.agg #[k,s,.slice q t r,n,(S.B info),(S.B text),Ai,.slice m p o]] w λe ae=>e=.returned (.tuple #[])/\Wrote 124 B b (l++([60,104]++Lib.itoa n++[62]++Bg text++([60,47,104]++Lib.itoa n++[62,10]))) w ae:=by
 obtain⟨f,u⟩:=Qzz (w.alloc (.cells #[k,s,.slice q t r,n,(S.B info),(S.B text),Ai,.slice m p o] 110));have h:Wrote 124 B b l w f:=by rw[u];exact(Wrote.refl G).Lm D _
 have g:f.heap[w.heap.size]?=some (.cells #[k,s,.slice q t r,n,(S.B info),(S.B text),Ai,.slice m p o] 110 (0,0)):=by rw[u];exact Ak _ _
 have ac:U (∀d a,Wrote 124 B b d w a->Wrote 124 B b d f a->a.heap[w.heap.size]?=some (.cells #[k,s,.slice q t r,n,(S.B info),(S.B text),Ai,.slice m p o] 110 (0,0))):=V (λd a _ j=>j.blk h.1 g J J);have E:B<=f:=Qj D h.2.1.size;have H:=L.below h.2.1;have ab:=V (Wrote.refl h.1);have T:U (∀d a,Wrote 124 B b d f a->Wrote 124 B b d w a):=V (λd a j=>h.trans j);have W:U (∀d a,Wrote 124 B b d f a->a.heap[w.heap.size]?=some (.cells #[k,s,.slice q t r,n,(S.B info),(S.B text),Ai,.slice m p o] 110 (0,0))):=V (λd a j=>j.blk h.1 g J J);have Q:=V u;have K:=V H;have ai:=X g 3 _ rfl;have aj:=X g 4 _ rfl;have ak:=X g 5 _ rfl;have al:=X g 6 _ rfl;have am:=X g 7 _ rfl;clear G g h u ac H L;have M:=Lib.itoa_length_le n A C;have F:=V (ab.q.i E K.q n A C);obtain⟨y,v⟩:=Qyy (S.B (Lib.itoa n));have ag:y.size<=21:=by rw[<-v,S.Bc];exact M
 rw[v]at F;have aa:=V v;clear v M;go_enter func148,ntmps148;go_wp2_with fail
 rw[<-Q.q];apply F.m;rintro e a⟨rfl,x⟩;have an:=X (W.q _ _ x) 5 _ rfl;have N:=V x;clear x;go_wp2_with fail
 refine(N.q.c E K.q _ text _ R (by simp only[Ol,Dj,Qba,Qd,Qi];omega)).mono ?_;rintro e ah⟨rfl,z⟩;have P:=V z;clear z;go_wp2;go_end0;refine⟨rfl,?_⟩;have:=T.q _ _ P.q;rw[<-aa.q]at this;simpa [Ph,S.Bq,List.append_assoc]using this
theorem zi8 (B b:Nat)(l:List UInt8)(w:Sw)(ae:Kn B b l w)(ac:B<=w)(ag:Cv B w)(k y:Int)(v:So)(z x:Nat)(n:Int)(info text:List UInt8)(Ai:Bool)(s:So)(u t:Nat)(a1:text.length<=300000)(a5:info.length<=300000)(a6:l.length+120+6*info.length+96*text.length<=1000000000):Calls prog 149 #[.pointer (some b),.agg #[k,y,.slice v z x,n,(S.B info),(S.B text),Ai,.slice s u t]] w λe ax=>e=.returned (.tuple #[])/\Wrote 124 B b (l++([60,112,114,101,62,60,99,111,100,101]++(if info=[]then []else [32,99,108,97,115,115,61,34]++S.Bd (S.word info)++[34])++[62]++S.Bd text++[60,47,99,111,100,101,62,60,47,112,114,101,62,10])) w ax:=by
 obtain⟨f,A⟩:=Qzz (w.alloc (.cells #[k,y,.slice v z x,n,(S.B info),(S.B text),Ai,.slice s u t] 110));have m:Wrote 124 B b l w f:=by rw[A];exact(Wrote.refl ae).Lm ac _
 have j:f.heap[w.heap.size]?=some (.cells #[k,y,.slice v z x,n,(S.B info),(S.B text),Ai,.slice s u t] 110 (0,0)):=by rw[A];exact Ak _ _
 have aw:U (∀d a,Wrote 124 B b d w a->Wrote 124 B b d f a->a.heap[w.heap.size]?=some (.cells #[k,y,.slice v z x,n,(S.B info),(S.B text),Ai,.slice s u t] 110 (0,0))):=V (λd a _ h=>h.blk m.1 j J J);have g:B<=f:=Qj ac m.2.1.size;have af:Cv B f:=ag.below m.2.1;have au:=V (Wrote.refl m.1);have ah:U (∀d a,Wrote 124 B b d f a->Wrote 124 B b d w a):=V (λd a h=>m.trans h);have N:U (∀d a,Wrote 124 B b d f a->a.heap[w.heap.size]?=some (.cells #[k,y,.slice v z x,n,(S.B info),(S.B text),Ai,.slice s u t] 110 (0,0))):=V (λd a h=>h.blk m.1 j J J);have ao:=V A;have ap:=V af;have bd:=X j 3 _ rfl;have bf:=X j 4 _ rfl;have bg:=X j 5 _ rfl;have bh:=X j 6 _ rfl;have bi:=X j 7 _ rfl;clear ae j m A aw af ag;have a2:=S.Gu (S.word info);have a3:=VW info;have a4:=S.Gu text;have an:U (∀a d,Wrote 124 B b d f a->Calls prog 194 #[(S.B info),.string ⟨#[32]⟩] a λe C=>∃P W,e=.returned (.tuple #[(S.B (S.word info)),.string P,.bool W])/\Wrote 124 B b d f C):=V (λa d h=>by
  obtain⟨av,ar⟩:=(ap.q.below h.2.1).1.2.1;have:=Tryz.strings_Cut (S.B info) ⟨#[32]⟩ av a (by rw[S.Bc];omega) ar;rw[S.Bq]at this;refine this.mono ?_;rintro e C⟨rfl,a8,rfl⟩;exact⟨_,_,rfl,h.below (zhn _ _) (Qj g h.2.1.size)⟩)
 obtain⟨T,L⟩:=Qzz (l++([60,112,114,101,62,60,99,111,100,101]++(if info=[]then []else [32,99,108,97,115,115,61,34]++S.Bd (S.word info)++[34])++[62]++S.Bd text++[60,47,99,111,100,101,62,60,47,112,114,101,62,10]))
 rw[<-L];have M:=V L;clear L;go_enter func149,ntmps149;go_wp2_with fail
 rw[<-ao.q];refine(au.q.w g ⟨#[60,112,114,101,62,60,99,111,100,101]⟩ (by rw[Dj];simp only[Qba,Qd,Qi];omega)).mono ?_;rintro e a⟨rfl,G⟩;have Q:=N.q _ _ G;have a0:=X Q 4 _ rfl;have bj:=X Q 5 _ rfl;have R:=V G;clear G Q;by_cases r:info=[]
 ·subst r;have ai:(S.B []:Sb)=⟨#[]⟩:=rfl;rw[ai]at a0;go_wp2_with fail
  refine(R.q.b g 62 (by simp only[Qa,Qd,Qi];omega)).mono ?_;rintro e C⟨rfl,o⟩;have bk:=X (N.q _ _ o) 5 _ rfl;have D:=V o;clear o;go_wp2_with fail
  refine(D.q.e g (S.B text) (by rw[S.Bc];simp only[Qa,Qd,Qi];omega)).mono ?_;rintro e ay⟨rfl,p⟩;rw[S.Bq]at p;have E:=V p;clear p;go_wp2_with fail
  refine(E.q.w g ⟨#[60,47,99,111,100,101,62,60,47,112,114,101,62,10]⟩ (by rw[Dj];simp only[Qba,Qa,Qd,Qi];omega)).mono ?_;rintro e az⟨rfl,q⟩;have F:=V q;clear q;go_wp2;go_end0;refine⟨rfl,?_⟩;have:=ah.q _ _ F.q;rw[M.q];simpa [List.append_assoc]using this
 have ai:(S.B info).toList.isEmpty=false:=by
  rw[ByteArray.toList_eq,S.Bq];cases info with
  |nil=>exact absurd rfl r
  |cons c P=>rfl
 have aq:U ((if info=[]then []else [32,99,108,97,115,115,61,34]++S.Bd (S.word info)++[34])=[32,99,108,97,115,115,61,34]++S.Bd (S.word info)++[34]):=V (if_neg r)
 rw[aq.q]at M;have a7:=V r;clear r;go_wp2_with fail
 refine(an.q _ _ R.q).mono ?_;rintro e C⟨P,W,rfl,o⟩;have D:=V o;clear o;go_wp2_with fail
 refine(D.q.w g ⟨#[32,99,108,97,115,115,61,34]⟩ (by rw[Dj];simp only[Qba,Qa,Qd,Qi];omega)).mono ?_;rintro e ay⟨rfl,p⟩;have E:=V p;clear p;go_wp2_with fail
 refine(E.q.e g (S.B (S.word info)) (by rw[S.Bc];simp only[Qa,Qd,Qi];omega)).mono ?_;rintro e az⟨rfl,q⟩;rw[S.Bq]at q;have F:=V q;clear q;go_wp2_with fail
 refine(F.q.b g 34 (by simp only[Qa,Qd,Qi];omega)).mono ?_;rintro e a9⟨rfl,aa⟩;have aj:=V aa;clear aa;go_wp2_with fail
 refine(aj.q.b g 62 (by simp only[Qa,Qd,Qi];omega)).mono ?_;rintro e ba⟨rfl,H⟩;have bl:=X (N.q _ _ H) 5 _ rfl;have ak:=V H;clear H;go_wp2_with fail
 refine(ak.q.e g (S.B text) (by rw[S.Bc];simp only[Qa,Qd,Qi];omega)).mono ?_;rintro e bb⟨rfl,K⟩;rw[S.Bq]at K;have al:=V K;clear K;go_wp2_with fail
 refine(al.q.w g ⟨#[60,47,99,111,100,101,62,60,47,112,114,101,62,10]⟩ (by rw[Dj];simp only[Qba,Qa,Qd,Qi];omega)).mono ?_;rintro e bc⟨rfl,ab⟩;have am:=V ab;clear ab;go_wp2;go_end0;refine⟨rfl,?_⟩;have:=ah.q _ _ am.q;rw[M.q];simpa [List.append_assoc]using this
