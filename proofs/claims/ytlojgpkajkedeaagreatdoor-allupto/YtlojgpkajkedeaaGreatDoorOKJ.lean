import Derived.Test.YtlojgpkajkedeaaGreatDoorOKE
set_option maxHeartbeats 0
set_option maxRecDepth 100000
namespace Go.Proofs.YtlojgpkajkedeaaGreatDoor
open Go.RowKit Go.Proofs.Tryz
def Stepped (a h:Nat)(g:List (Nat×ByteArray))(n t:Nat)(w w':Sw):Prop:=∃d f,Dl a h d n f w'/\d.length=g.length/\f<=t+1/\Below a w w'
theorem UO {l q n t:Nat}{j:List (Nat×ByteArray)}(k o:Nat)(s G:Sb)(kd ap p r:Int)(w:Sw)(af:Dl l q j n t w)(N:j[k]?=some (o,s))(bv:G.size<=2000000)(az : -9223372036854775808<=p)(ay:p<=9223372036854775807)(bt : -9223372036854775808<=r)(bs:r<=9223372036854775807)(am:Cv l w)(bu:t<=200000):Calls prog 35 #[.pointer (some q),k,.agg #[kd,ap,p,r,G]] w λe f=>e=.returned true/\U (Stepped l q j n t w f):=by
 obtain⟨d,F⟩:=Qzz (w.alloc (.cells #[kd,ap,p,r,G] 59));have M:Below w w d:=by rw[F];exact Sr.alloc (Qc _) _
 have P:d.heap[w.heap.size]?=some (.cells #[kd,ap,p,r,G] 59 (0,0)):=by rw[F];exact Ak _ _
 have bo:=af.lt;have aa:Below l w d:=M.mono Z;have H:=af.below M;have cc:=(Qb.1 N).1;obtain⟨b6,b4,b7,b5,_,_,_,b8,ce,ao,b0,b1,b2,b3,_⟩:=H.at k o s N;have ci:=X P 0 _ rfl;have R:=X P 2 _ rfl;have cj:=X P 3 _ rfl;have ck:=X P 4 _ rfl;have ca:(0:Int)<=(k:Int):=Z;have cb:(k:Int)<(j.length:Int):=Z;have aq:U (∀a,Below d d a->∀p r:Int,-9223372036854775808<=p->p<=9223372036854775807->Calls prog 57 #[.pointer (some q),k,p,r,G] a λe f=>e=.returned true/\U (Stepped l q j n t w f)):=V (λa a1 p r a5 a6=>by
  have ar:=aa.trans (a1.mono (by have:=M.size;omega));refine(zl1 k o s G p r a (H.below a1) N bv a5 a6 (am.below ar)).mono ?_;rintro e f⟨rfl,g⟩;exact⟨rfl,V ⟨_,t,g.q.1,List.length_set,Z,ar.trans g.q.2⟩⟩)
 have ai:U (∃T,Gq T o d s):=V (by obtain⟨bz,cm,cl,F,_⟩:=H;exact⟨_,(F.sh k _ N).2.2⟩);have b9:U (Cv l d):=V (am.below aa);have L:=V F;have ag:=V H;have al:=V aa;have bp:=V (show l<=d.heap.size by have:=M.size;omega);have av:kd=2\/kd≠2:=Z;clear F M P af H N am aa bo;rcases av with rfl|av
 ·have a8:=V (aq.q d Sr p r az ay);go_enter func35,ntmps35;go_upto_region 1 with fail
  rw[<-L.q];go_wp2_with fail
  apply a8.m;rintro e f⟨rfl,g⟩;go_wp2;go_ret;exact⟨rfl,g⟩
 by_cases bm:kd=7
 ·subst bm;have bb:U (∀a,Calls prog 36 #[p,((s.size:Int)+1:Int)] a λe f=>∃h:Nat,(h:Int)<(s.size:Int)+1/\e=.returned h/\a=f):=V (λa=>FK ((s.size:Int)+1) p a Z Z az ay);have bc:U (∀(h:Nat) a,(h:Int)<(s.size:Int)+1->Calls prog 36 #[r,((s.size:Int)-(h:Int)+1:Int)] a λe f=>∃R:Nat,(R:Int)<(s.size:Int)-(h:Int)+1/\e=.returned R/\a=f):=V (λh a a0=>FK ((s.size:Int)-(h:Int)+1) r a Z Z bt bs);go_enter func35,ntmps35;go_upto_region 1 with fail
  rw[<-L.q];go_wp2_with fail
  refine(bb.q _).mono ?_;rintro e f⟨h,a0,rfl,rfl⟩;have cf:IntKind.i64.wrap ((s.size:Int)-(h:Int))=(s.size:Int)-(h:Int):=by rw[Sqe];omega
  have cg:IntKind.i64.wrap ((s.size:Int)-(h:Int)+1)=(s.size:Int)-(h:Int)+1:=by rw[Sqe];omega
  go_wp2_with fail
  go_region_with ((first|(go_at_call 36;refine(bc.q h _ a0).mono ?_;rintro e f⟨R,cd,rfl,rfl⟩)|(go_at_call 57;refine(aq.q _ (Sr.drew) (h:Int) (R:Int) Z Z).mono ?_;rintro e f⟨rfl,g⟩)))
  all_goals (go_wp2;go_ret)
  all_goals exact⟨rfl,g⟩
 by_cases bk:kd=3
 ·subst bk;obtain⟨T,m⟩:=ai.q;have bh:=V (zjh o s d m);have an:U (Stepped l q j n t w d):=V ⟨j,t,ag.q,rfl,Z,al.q⟩;clear m;go_enter func35,ntmps35;go_upto_region 1 with fail
  rw[<-L.q];go_wp2_with fail
  apply bh.m;rintro e f⟨rfl,rfl⟩;go_wp2;go_ret;exact⟨Y,an⟩
 by_cases bl:kd=4
 ·subst bl;obtain⟨T,m⟩:=ai.q;obtain⟨ab,ah⟩:=Qyy (S.B (M8 s));have K:=IU s d ao;rw[ah]at K;have bd:=V K;have z:U (∀a,Below d d a->Calls prog 42 #[.pointer (some o)] a λe f=>e=.returned ab/\Below a.heap.size a f):=V (λa A=>by
   rw[<-ah];exact zhg o s a (m.move (Moves.of A) (A.block o m.lt)))
  have an:U (∀a,Below d d a->Stepped l q j n t w a):=V (λa A=>⟨j,t,ag.q.below A,rfl,Z,al.q.trans (A.mono bp.q)⟩);clear m K ah;go_enter func35,ntmps35;go_upto_region 1 with fail
  rw[<-L.q];go_wp2_with fail
  apply bd.m;rintro e D⟨rfl,C⟩;have bf:=V (z.q D C);have W:=V C;clear C;go_wp2_with fail
  apply bf.m;rintro e E⟨rfl,v⟩;have g:=V (an.q E (W.q.trans (v.mono W.q.size)));clear v;go_wp2;go_ret;exact⟨Y,g⟩
 obtain⟨u,aj⟩:=Qyy (Ih s);obtain⟨T,m⟩:=ai.q;have au:=FP s (by rw[S.lda];exact ao);have z:=zkt o s d m;have K:U (∀a,Calls prog 52 #[s] a λe f=>∃(B:Nat) (x:So) (y:Nat),e=.returned (.tuple #[.slice x u.length y,O])/\U (u.length<=900000/\a.heap.size<=B/\Bw B x y u f/\Below a.heap.size a f)):=V (λa=>by rw[<-aj];exact IY s a ao);rw[aj]at z au;have bg:=V z;have ba:U (∀(a:Sw) (B:Nat) (x:So) (y:Nat) (Q:List Tl),Below d d a->d.heap.size<=B->Bw B x y Q a->Q.length<=900000->Calls prog 54 #[.pointer (some (q 2)),.slice x Q.length y] a λe f=>e=.returned (.tuple #[])/\U (Stepped l q j n t w f)):=V (λa B x y Q A a7 bq bn=>(ag.q.mkT bu A B x y Q a7 bq bn).mono (by
  rintro e f⟨rfl,g⟩;exact⟨rfl,V ⟨j,t+1,g.q.1,rfl,Qc _,al.q.trans g.q.2⟩⟩))
 clear m z aj;go_enter func35,ntmps35;go_upto_region 1 with fail
 rw[<-L.q];go_wp2_with fail
 apply bg.m;rintro e D⟨ac,ae,rfl,aw,C⟩;have ax:=V aw;have W:=V C;have bw:d<=D.heap.size:=C.size;clear aw C;go_wp2_with fail
 refine(K.q D).mono ?_;rintro e E⟨a2,a3,a4,rfl,g⟩;have v:Below D D E:=g.q.2.2.2;have ch:D<=E.heap.size:=v.size;have z:=V (Zl d a2 ac a3 ae a4 u E (ax.q.below v) g.q.2.2.1 Z);have bi:U (Below d d E):=V (W.q.trans (v.mono bw));have br:U (Bw d ac ae u E):=V (ax.q.below v);clear v g;go_wp2_with fail
 apply z.m;rintro e bx⟨rfl,ak⟩;have a9:=V (ba.q bx d ac ae u (bi.q.trans (ak.mono Z)) (Qc _) (br.q.below ak) au);clear ak;go_wp2_with fail
 apply a9.m;rintro e cn⟨rfl,bj⟩;go_wp2;go_ret;exact⟨rfl,bj⟩
