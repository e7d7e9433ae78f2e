import Derived.Test.YtlojgpkajkedeaaGreatDoorOPI
import Derived.Test.YtlojgpkajkedeaaGreatDoorOTQ
import Derived.Maps.AppendAt
import Derived.Deep.AppendLies
set_option maxHeartbeats 0
set_option maxRecDepth 100000
namespace Go.Proofs.YtlojgpkajkedeaaGreatDoor
open Go.RowKit Go.Proofs.Tryz
theorem YR {B g f:Nat}{l:List Nd}{w:Sw}(a:Bl B (some g) f l w)(i:Nat):w.frozen? (g i)=false:=by
 rcases a.2 with ⟨a,_⟩|⟨h,k,m,d,_,j,_⟩
 ·exact absurd a Y
 obtain rfl:g=h:=by simp at d;exact d.1
 exact Av j i
theorem RN (a b:List Nd):Ck (a++b)=Ck a++Ck b:=by simp[Ck]
theorem znb (l:List Nd):(Ck l).length=l.length*5:=by
 induction l with
 |nil=>rfl
 |cons d a f=>
  have e:Ck (d::a)=Cg d++Ck a:=by simp[Ck]
  rw[e,Qa,f,Qd];simp[Cg];omega
theorem zi7 (l:List Nd)(k:Nat)(a g:Nd)(d:l[k]?=some g):Ck (l.set k a)=(((((Ck l).set (k*5) (.int .i64 a.depth)).set (k*5+1) (.int .i64 a.kind)).set (k*5+2) (.int .i64 a.n)).set (k*5+3) (.string a.info)).set (k*5+4) (.string a.text):=by
 have m:=(Qb.1 d).1;have o:l=l.take k++g::l.drop (k+1):=by
  conv=>lhs;rw[<-Sy k l]
  rw[Qm m];rw[Qg m]at d;rw[Qy d]
 have r:(Ck (l.take k)).length=k*5:=by rw[znb,Ql,SI Z]
 have j:∀(h:Nd) (f:List Nd),Ck (h::f)=Cg h++Ck f:=λh f=>by simp[Ck]
 have p:Ck l=Ck (l.take k)++(Cg g++Ck (l.drop (k+1))):=by
  conv=>lhs;rw[o]
  rw[RN,j]
 have q:Ck (l.set k a)=Ck (l.take k)++(Cg a++Ck (l.drop (k+1))):=by
  have:l.set k a=l.take k++a::l.drop (k+1):=by
   conv=>lhs;rw[o]
   rw[SG _ _ (by rw[Ql];omega),Ql,SI Z,Nat.sub_self];rfl
  rw[this,RN,j]
 rw[q,p];rw[SG _ _ Z,SG _ _ Z,SG _ _ Z,SG _ _ Z,SG _ _ Z,r,Nat.sub_self,show k*5+1-k*5=1 from Z,show k*5+2-k*5=2 from Z,show k*5+3-k*5=3 from Z,show k*5+4-k*5=4 from by omega];rfl
theorem Mh (w:Sw)(g i:Nat)(a:Value):w.grownBy (w.setCell (g i) a) (some g):=
 ⟨rfl,rfl,rfl,by simp[World.setCell],λf _ d=>Di rfl (g i) (λe=>d (by rw[e])) a⟩
theorem zbo {B g d:Nat}{l:List Nd}{w:Sw}(h:Bl B (some g) d l w)(k:Nat)(a f:Nd)(j:l[k]?=some f):Bl B (some g) d (l.set k a) (((((w.setCell (g (k*5)) (.int .i64 a.depth)).setCell (g (k*5+1)) (.int .i64 a.kind)).setCell (g (k*5+2)) (.int .i64 a.n)).setCell (g (k*5+3)) (.string a.info)).setCell (g (k*5+4)) (.string a.text)) /\
  w.grownBy (((((w.setCell (g (k*5)) (.int .i64 a.depth)).setCell (g (k*5+1)) (.int .i64 a.kind)).setCell (g (k*5+2)) (.int .i64 a.n)).setCell (g (k*5+3)) (.string a.info)).setCell (g (k*5+4)) (.string a.text)) (some g):=by
 refine⟨?_,((((Mh w g _ _).trans (Mh _ g _ _)).trans (Mh _ g _ _)).trans (Mh _ g _ _)).trans (Mh _ g _ _)⟩;unfold Bl;rw[List.length_set,zi7 l k a f j];exact Nn (Nn (Nn (Nn (Nn h rfl _ _) rfl _ _) rfl _ _) rfl _ _) rfl _ _
theorem Tryz.zi2:(prog.info? 22).map (λi=>(i.zero,i.size,i.bytes))=some (some (.slice none 0 0),1,24):=Sk
def Fg (z:Int):Nd:=⟨0,0,z,⟨#[]⟩,⟨#[]⟩⟩
theorem zhc (l:List Nd)(k:Nat)(a:Nd)(d:k<l.length):(List.replicate k a++l.drop k).set k a=List.replicate (k+1) a++l.drop (k+1):=by
 rw[SG _ _ Y,List.length_replicate,Nat.sub_self,Qm d,List.set_cons_zero,List.replicate_succ',Qp];rfl
theorem zft (l:List Nd)(k:Nat)(f a:Nd)(d:l[k]?=some a):(List.replicate k f++l.drop k)[k]?=some a:=by
 rw[Qu Y,List.length_replicate,Nat.sub_self,Qn,SL];exact d
def FV:List UInt8:=[35,32,97,32,42,98,42]
def Pn:List Nd:=[⟨0,2,1,⟨#[]⟩,⟨#[]⟩⟩,⟨1,8,0,⟨#[]⟩,⟨#[97,32]⟩⟩,⟨1,14,0,⟨#[]⟩,⟨#[]⟩⟩,⟨2,8,0,⟨#[]⟩,⟨#[98]⟩⟩]
theorem zcj:(S.Ag (FV.length+1) (S.Aw FV)).1=[.mk 2 1 [] [97,32,42,98,42] false []]:=Sk
theorem zfr:Lr FV=Pn:=by
 unfold Lr;rw[zcj];simp only[Cw,Ms,Jo];rw[znt [97,32,42,98,42] 10 Sk];kernel_rfl
theorem zmt (w:Sw)(o:Env w):Calls prog 23 #[] w λe A=>e=.returned true/\Below w w A:=by
 have k:=V (JV ⟨#[35,32,97,32,42,98,42]⟩ w J o);rw[show Lr (⟨#[35,32,97,32,42,98,42]⟩:Sb).data.toList=Pn from zfr,show Pn.length=4 from rfl]at k;clear o;go_enter func23,ntmps23;go_wp2_with fail
 apply k.m;rintro e a⟨r,s,t,rfl,D,q,h⟩;obtain⟨d,f⟩:=Qzz (a.alloc (.cells (Ck Pn).toArray 36));have j:Below a a d:=by rw[f];exact Sr.alloc (Qc _) _
 have p:Bl a (some a) 4 Pn d:=by rw[f];exact zjg a Pn 4 rfl J
 have g:=GN r a s (some a) t 4 Pn d (q.below j) p J;rw[show Pn.length=4 from rfl]at g;have u:=V g;have v:U (d=a.alloc (.cells #[O,(2:Int),(1:Int),(),(),(1:Int),(8:Int),O,(),.string ⟨#[97,32]⟩,(1:Int),(14:Int),O,(),(),(2:Int),(8:Int),O,(),.string ⟨#[98]⟩] 36)):=V f;have y:w<=a.heap.size:=h.size;have m:U (Below w w d):=V (h.trans (j.mono y));have z:w<=d.heap.size:=m.q.size;clear f j p q h g;go_wp2_with fail
 rw[<-v.q];apply u.m;rintro e C⟨rfl,l⟩;have x:U (Below w w C):=V (m.q.trans (l.mono z));clear l;go_wp2;go_ret;exact⟨rfl,x.q⟩
theorem XO {B g f:Nat}{l:List Tl}{w:Sw}(a:Bw B (some g) f l w)(i:Nat):w.frozen? (g i)=false:=by
 rcases a.2 with ⟨a,_⟩|⟨h,k,m,d,_,j,_⟩
 ·exact absurd a Y
 obtain rfl:g=h:=by simp at d;exact d.1
 exact Av j i
theorem KJ (a b:List Tl):Cb (a++b)=Cb a++Cb b:=by simp[Cb]
theorem zeq (l:List Tl):(Cb l).length=l.length*3:=by
 induction l with
 |nil=>rfl
 |cons d a f=>
  have e:Cb (d::a)=Cc d++Cb a:=by simp[Cb]
  rw[e,Qa,f,Qd];simp[Cc];omega
theorem zd4 (l:List Tl)(i a:Nat)(j:Tl)(d:l[i]?=some j)(m:a<3):(Cb l)[3*i+a]?=(Cc j)[a]?:=by
 induction l generalizing i with
 |nil=>simp at d
 |cons g h k=>
  have f:(Cc g).length=3:=rfl;cases i with
  |zero=>
   simp at d;subst d;show (Cc g++Cb h)[3*0+a]?=_;rw[Qbd (by rw[f];omega)];simp
  |succ i=>
   have:=k i (by simpa using d);show (Cc g++Cb h)[3*(i+1)+a]?=_;rw[Qu (by rw[f];omega),f,<-this];congr 1;omega
theorem AO {B:Nat}{a:So}{r:Nat}{l:List Tl}{w:Sw}(j:Bw B a r l w)(i:Nat)(f:Tl)(o:l[i]?=some f):∃g,a=some ⟨g,0,none⟩/\B<=g/\g<w.heap.size/\w.cell? ⟨g,i*3,none⟩=some (.int .i64 f.level)/\w.cell? ⟨g,i*3+1,none⟩=some (.string (S.B f.text))/\w.cell? ⟨g,i*3+2,none⟩=some (.int .i64 f.line):=by
 have E:0<l.length:=by have:=(Qb.1 o).1;omega
 rcases j.2 with ⟨_,m⟩|⟨g,x,y,s,m,t,z,A,C,D⟩
 ·omega
 injection s with e1 e2 e3
 subst e1;have k:∀d h,(Cc f)[d]?=some h->w.cell? ⟨g,i*3+d,none⟩=some h:=by
  intro d h p;have v:d<3:=by have:=(Qb.1 p).1;simpa [Cc]using this
  have q:=zd4 l i d f o v;rw[p]at q;have:=World.ownsRow.cells j (g:=g) rfl (3*i+d) h q;have u:(⟨g,0,none⟩:Addr).add (3*i+d)=⟨g,i*3+d,none⟩:=by
   rw[Nat.mul_comm];simp only[Addr.add];split;·rename_i j;simp<;>omega
   simp<;>omega
  rw[<-u];exact this
 exact⟨g,rfl,m,(Qq.1 t).1,k 0 _ rfl,k 1 _ rfl,k 2 _ rfl⟩
theorem zml (l:List Tl)(k:Nat)(a g:Tl)(d:l[k]?=some g):Cb (l.set k a)=(((Cb l).set (k*3) (.int .i64 a.level)).set (k*3+1) (.string (S.B a.text))).set (k*3+2) (.int .i64 a.line):=by
 have m:=(Qb.1 d).1;have o:l=l.take k++g::l.drop (k+1):=by
  conv=>lhs;rw[<-Sy k l]
  rw[Qm m];rw[Qg m]at d;rw[Qy d]
 have r:(Cb (l.take k)).length=k*3:=by rw[zeq,Ql,SI Z]
 have j:∀(h:Tl) (f:List Tl),Cb (h::f)=Cc h++Cb f:=λh f=>by simp[Cb]
 have p:Cb l=Cb (l.take k)++(Cc g++Cb (l.drop (k+1))):=by
  conv=>lhs;rw[o]
  rw[KJ,j]
 have q:Cb (l.set k a)=Cb (l.take k)++(Cc a++Cb (l.drop (k+1))):=by
  have:l.set k a=l.take k++a::l.drop (k+1):=by
   conv=>lhs;rw[o]
   rw[SG _ _ (by rw[Ql];omega),Ql,SI Z,Nat.sub_self];rfl
  rw[this,KJ,j]
 rw[q,p];rw[SG _ _ Z,SG _ _ Z,SG _ _ Z,r,Nat.sub_self,show k*3+1-k*3=1 from Z,show k*3+2-k*3=2 from by omega];rfl
theorem zjq {B g d:Nat}{l:List Tl}{w:Sw}(h:Bw B (some g) d l w)(k:Nat)(a f:Tl)(j:l[k]?=some f):Bw B (some g) d (l.set k a) (((w.setCell (g (k*3)) (.int .i64 a.level)).setCell (g (k*3+1)) (.string (S.B a.text))).setCell (g (k*3+2)) (.int .i64 a.line)) /\
  w.grownBy (((w.setCell (g (k*3)) (.int .i64 a.level)).setCell (g (k*3+1)) (.string (S.B a.text))).setCell (g (k*3+2)) (.int .i64 a.line)) (some g):=by
 refine⟨?_,((Mh w g _ _).trans (Mh _ g _ _)).trans (Mh _ g _ _)⟩;unfold Bw;rw[List.length_set,zml l k a f j];exact Nn (Nn (Nn h rfl _ _) rfl _ _) rfl _ _
theorem Tryz.XZ:(prog.info? 65).map (λi=>(i.zero,i.size,i.bytes))=some (some (.slice none 0 0),1,24):=Sk
def Fb (z:Int):Tl:=⟨0,[],z⟩
theorem zfg (l:List Tl)(k:Nat)(a:Tl)(d:k<l.length):(List.replicate k a++l.drop k).set k a=List.replicate (k+1) a++l.drop (k+1):=by
 rw[SG _ _ Y,List.length_replicate,Nat.sub_self,Qm d,List.set_cons_zero,List.replicate_succ',Qp];rfl
theorem zis (l:List Tl)(k:Nat)(f a:Tl)(d:l[k]?=some a):(List.replicate k f++l.drop k)[k]?=some a:=by
 rw[Qu Y,List.length_replicate,Nat.sub_self,Qn,SL];exact d
