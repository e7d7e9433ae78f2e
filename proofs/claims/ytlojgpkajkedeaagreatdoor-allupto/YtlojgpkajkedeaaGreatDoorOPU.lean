import Derived.Test.YtlojgpkajkedeaaGreatDoorOPB
import Derived.Test.YtlojgpkajkedeaaGreatDoorOTH
import Derived.Laws.IdiomStrings
set_option maxHeartbeats 0
set_option maxRecDepth 100000
namespace Go.Proofs.YtlojgpkajkedeaaGreatDoor
open Go.RowKit Go.Proofs.Tryz
theorem BU (a:List UInt8)(d:Sb):S.B a++d=S.B (a++d.data.toList):=by
 have f:(S.B a++d).data=(S.B (a++d.data.toList)).data:=by simp[S.B,ByteArray.data_append]
 exact ByteArray.ext f
theorem zkn (d:Sb)(a:List UInt8):d++S.B a=S.B (d.data.toList++a):=by
 have f:(d++S.B a).data=(S.B (d.data.toList++a)).data:=by simp[S.B,ByteArray.data_append]
 exact ByteArray.ext f
theorem TH (c:UInt8)(v:Int)(d:(c.toNat:Int)=v)(a:Sw):(convert 45 9 (.slice (some a) 1 1)).run prog (a.alloc (.cells #[.int .u8 v] 5))=.ok (.string ⟨#[c]⟩) (a.alloc (.cells #[.int .u8 v] 5)):=by
 refine run_convert_bytes_back _ 45 9 5 a 1 [c] underlying45 underlying5 underlying9 ?_;intro g f;have:g=0:=by simpa using f
 subst this;rw[<-d];exact World.news_of_block (Ak _ _) 0 _ rfl
def Uh:Value->Nat
 |.string a=>if a.size=0 then 1 else 0
 |_=>0
def Yb (n a:Nat)(r:List UInt8):Prop:=(r=[]/\a=n)\/(r≠[]/\(a=0->Lib.decDigits n=r)/\(0<a->Lib.decDigits n=Lib.decDigits a++r))
theorem Zb (a:Nat)(d:a<10):Lib.decDigits a=[UInt8.ofNat (48+a)]:=by rw[Lib.decDigits,dif_pos d]
theorem Z4 (a:Nat)(d:¬a<10):Lib.decDigits a=Lib.decDigits (a / 10)++[UInt8.ofNat (48+a % 10)]:=by rw[Lib.decDigits,dif_neg d]
theorem Yb.step {n a:Nat}{r:List UInt8}(k:Yb n a r)(h:0<a\/r=[]):Yb n (a / 10) (UInt8.ofNat (48+a % 10)::r):=by
 right
 refine⟨Y,?_,?_⟩
 ·intro l;have f:a<10:=Z;rw[Nat.mod_eq_of_lt f];rcases k with ⟨d,g⟩|⟨d,g,j⟩
  ·subst d g;rw[Zb a f]
  rcases h with h|h
  ·rw[j h,Zb a f];rfl
  exact absurd h d
 intro l;have f:¬a<10:=Z;rcases k with ⟨d,g⟩|⟨d,g,j⟩
 ·subst d g;rw[Z4 a f]
 rw[j Z,Z4 a f];simp
inductive Tr where
 |mk (k n:Int) (info text:Sb) (Ab:List Tr)
theorem Tj (s:Sb)(w:Sw)(R:s.size<=10000000):Calls prog 146 #[s] w λe G=>e=.returned (.string (S.B (S.Bd s)))/\G=w:=by
 go_enter func146,ntmps146;go_wp2;go_loop [3,4] (λF i=>∃a:Nat,a<=s.size/\i=.int .i64 a/\F=.string (S.B (S.Bd (s.data.toList.take a)))) (λ_ i=>s.size-(intOf i).toNat)
 case atStart=>exact⟨0,Qt _,rfl,rfl⟩
 case round=>
  obtain⟨a,Q,rfl,rfl⟩:=hrel;by_cases x:a<s.size
  ·have p:=S.Bz s a x;have y:=S.WH _ a _ p;have v:=S.Gu (s.data.toList.take a);rw[Ql,S.lda]at v;obtain⟨m,o⟩:=Qyy (S.B (S.Bd (s.data.toList.take a)));have H:m.size<=60000000:=by rw[<-o,S.Bc];omega
   have g:U (∀t:Sb,S.M6 s[a]=t.data.toList->m++t=S.B (S.Bd (s.data.toList.take (a+1)))):=V (λt h=>by rw[<-o,BU,y,h]);have M:(0:Int)<=(a:Int):=Z;have N:(a:Int)<(s.size:Int):=Z;have P:(a:Int)+1<=(s.size:Int):=Z;rw[o];obtain⟨c,d⟩:=Qyy (s[a]);have L:=s[a].toNat_lt;clear y v o p;by_cases f:c=38
   ·have h:=V (g.q ⟨#[38,97,109,112,59]⟩ (by rw[d,f];rfl));have r:s[a].toNat=38:=(by rw[d,f];rfl);clear f d g;go_wp2;go_round
    case rel=>exact⟨a+1,Z,by go_num,by rw[h.q]⟩
    case measure=>exact Sj
   by_cases j:c=60
   ·have h:=V (g.q ⟨#[38,108,116,59]⟩ (by rw[d,j];rfl));have r:s[a].toNat=60:=(by rw[d,j];rfl);have q:(((s[a].toNat:Nat):Int) == 38)=false:=(by rw[Qe,d];intro e;exact f (Qk.1 (SX.1 e)));clear f j d g;go_wp2;go_round
    case rel=>exact⟨a+1,Z,by go_num,by rw[h.q]⟩
    case measure=>exact Sj
   by_cases k:c=62
   ·have h:=V (g.q ⟨#[38,103,116,59]⟩ (by rw[d,k];rfl));have r:s[a].toNat=62:=(by rw[d,k];rfl);have q:(((s[a].toNat:Nat):Int) == 38)=false:=(by rw[Qe,d];intro e;exact f (Qk.1 (SX.1 e)));have u:(((s[a].toNat:Nat):Int) == 60)=false:=(by rw[Qe,d];intro e;exact j (Qk.1 (SX.1 e)));clear f j k d g;go_wp2;go_round
    case rel=>exact⟨a+1,Z,by go_num,by rw[h.q]⟩
    case measure=>exact Sj
   by_cases l:c=34
   ·have h:=V (g.q ⟨#[38,113,117,111,116,59]⟩ (by rw[d,l];rfl));have r:s[a].toNat=34:=(by rw[d,l];rfl);have q:(((s[a].toNat:Nat):Int) == 38)=false:=(by rw[Qe,d];intro e;exact f (Qk.1 (SX.1 e)));have u:(((s[a].toNat:Nat):Int) == 60)=false:=(by rw[Qe,d];intro e;exact j (Qk.1 (SX.1 e)));have A:(((s[a].toNat:Nat):Int) == 62)=false:=(by rw[Qe,d];intro e;exact k (Qk.1 (SX.1 e)));clear f j k l d g;go_wp2;go_round
    case rel=>exact⟨a+1,Z,by go_num,by rw[h.q]⟩
    case measure=>exact Sj
   have h:=V (g.q (s.extract a (a+1)) (by
    rw[d];have z:S.M6 c=[c]:=(by unfold S.M6;rw[if_neg f,if_neg j,if_neg k,if_neg l]);have p:=S.Bz s a x;obtain⟨D,E⟩:=Qb.1 p;rw[z,S.extract_data,Qm D,E,d];simp))
   have q:(((s[a].toNat:Nat):Int) == 38)=false:=by rw[Qe,d];intro e;exact f (Qk.1 (SX.1 e))
   have u:(((s[a].toNat:Nat):Int) == 60)=false:=by rw[Qe,d];intro e;exact j (Qk.1 (SX.1 e))
   have A:(((s[a].toNat:Nat):Int) == 62)=false:=by rw[Qe,d];intro e;exact k (Qk.1 (SX.1 e))
   have K:(((s[a].toNat:Nat):Int) == 34)=false:=by rw[Qe,d];intro e;exact l (Qk.1 (SX.1 e))
   clear f j k l d g;go_wp2;go_round
   case rel=>exact⟨a+1,Z,by go_num,by rw[<-h.q]⟩
   case measure=>exact Sj
  have C:a=s.size:=Z;subst C;have g:U (S.Bd (s.data.toList.take s.size)=S.Bd s):=V (by rw[Qbj (by rw[S.lda];omega)]);rw[g.q];go_wp2;go_ret;exact⟨rfl,rfl⟩
theorem MJ (n:Nat)(w:Sw)(H:n<=1000000000):Calls prog 145 #[n] w λe F=>e=.returned (.string (S.B (Lib.decDigits n)))/\Below w w F:=by
 go_enter func145,ntmps145;go_wp2;go_loopw [0,3] (λs u wr=>∃(a:Nat) (d:List UInt8),a<=n/\s=.int .i64 a/\u=.string (S.B d)/\d.length+a<=n+1/\U (Yb n a d/\Below w w wr)) (λs u _=>(intOf s).toNat+Uh u)
 case atStart=>exact⟨n,[],Qc _,rfl,rfl,Y,V ⟨.inl ⟨rfl,rfl⟩,Sr⟩⟩
 case round=>
  obtain⟨a,d,K,rfl,rfl,M,f⟩:=hrel;have N:(S.B d).size<=2000000000:=by rw[S.Bc];omega
  by_cases g:0<a\/d=[]
  ·have r:=V (f.q.1.step g);obtain⟨c,m⟩:∃c:UInt8,c=UInt8.ofNat (48+a % 10):=⟨_,rfl⟩;have o:(c.toNat:Int)=48+(a:Int) % 10:=by
    rw[m];have:(UInt8.ofNat (48+a % 10)).toNat=48+a % 10:=(by simp[UInt8.toNat_ofNat'];omega);rw[this];omega
   have z:=TH c (48+(a:Int) % 10) o wr;have E:(0:Int)<=(a:Int):=Z;rw[<-m]at r;have v:U (∀t,Below w w (wr.alloc t)):=V (λt=>f.q.2.alloc f.q.2.size t);have l:U ((⟨#[c]⟩:Sb)++S.B d=S.B (c::d)):=V (by rw[zkn];rfl);have A:U (Value.int .i64 ((a:Int) / 10)=.int .i64 ((a / 10:Nat):Int)):=V (by congr 1);by_cases q:0<a
   ·have L:(0:Int)<(a:Int):=Z;clear g m o;go_wp2;go_roundw
    case rel=>exact⟨a / 10,c::d,Z,A.q,by rw[l.q],by rw[Qd];omega,V ⟨r.q,v.q _⟩⟩
    case measure=>
     have j:Uh (.string ((⟨#[c]⟩:Sb)++S.B d))=0:=by
      rw[l.q];simp only[Uh];rw[if_neg (by rw[S.Bc];simp)]
     rw[j];simp only[intOf];omega
   have k:d=[]:=by
    rcases g with h|h
    ·exact absurd h q
    exact h
   have D:a=0:=Z;subst k D;have x:(S.B ([]:List UInt8)).toList.isEmpty=true:=by rw[ByteArray.toList_eq,S.Bq];rfl
   have G:=TH c 48 (by rw[o];rfl) wr;clear g m o E z;go_wp2;go_roundw
   case rel=>exact⟨0,[c],Z,rfl,by rw[l.q],Y,V ⟨r.q,v.q _⟩⟩
   case measure=>
    have j:Uh (.string ((⟨#[c]⟩:Sb)++S.B ([]:List UInt8)))=0:=by
     rw[l.q];simp only[Uh];rw[if_neg (by rw[S.Bc];simp)]
    have p:Uh (.string (S.B ([]:List UInt8)))=1:=rfl;rw[j,p];simp[intOf]
  have q:a=0:=Z;have k:d≠[]:=λh=>g (.inr h);subst q;have C:U (S.B d=S.B (Lib.decDigits n)):=V (by
   rcases f.q.1 with ⟨j,_⟩|⟨_,p,_⟩
   ·exact absurd j k
   rw[p rfl])
  have x:(S.B d).toList.isEmpty=false:=by
   rw[ByteArray.toList_eq,S.Bq];cases d with
   |nil=>exact absurd rfl k
   |cons c d=>rfl
  have y:=V f.q.2;clear g k f;go_wp2;go_ret;exact⟨by rw[<-C.q];rfl,y.q⟩
mutual
def Pw:Rn->List UInt8
 |.nd a _ _ g _ d=>if a=8\/a=11 then g else if a=9\/a=10 then [32]else Dm d
def Dm:List Rn->List UInt8
 |[]=>[]
 |n::f=>Pw n++Dm f
end
mutual
def H7:Rn->Nat
 |.nd _ _ i f _ a=>1+i.length+f.length+Dp a
def Dp:List Rn->Nat
 |[]=>0
 |n::d=>H7 n+Dp d
end
theorem ZG (a b:List Rn):Dm (a++b)=Dm a++Dm b:=by
 induction a with
 |nil=>simp[Dm]
 |cons g f d=>simp only[List.cons_append,Dm,d,Qp]
theorem znx (a b:List Rn):Dp (a++b)=Dp a+Dp b:=by
 induction a with
 |nil=>simp[Dp]
 |cons g f d=>simp only[List.cons_append,Dp,d,Nat.add_assoc]
theorem Zy (l:List Rn):l.length<=Dp l:=by
 induction l with
 |nil=>simp
 |cons a f d=>cases a;simp only[Qd,Dp,H7];omega
theorem CR (l:List Rn)(i:Nat)(t:Rn)(a:l[i]?=some t):H7 t<=Dp l:=by
 induction l generalizing i with
 |nil=>simp at a
 |cons g f d=>
  simp only[Dp];cases i with
  |zero=>simp at a;subst a;omega
  |succ i=>have:=d i (by simpa using a);omega
theorem DZ (l:List Rn)(k:Nat):Dp (l.take k)<=Dp l:=by
 have a:Dp (l.take k)+Dp (l.drop k)=Dp l:=by rw[<-znx,Sy]
 omega
mutual
theorem zms (n:Rn):(Pw n).length<=H7 n:=by
 cases n with
 |nd k n i l a d=>
  have:=Rx d;simp only[Pw,H7];split
  ·omega
  split
  ·simp;omega
  omega
theorem Rx (a:List Rn):(Dm a).length<=Dp a:=by
 cases a with
 |nil=>simp[Dm]
 |cons g f=>
  have h:=zms g;have j:=Rx f;simp only[Dm,Dp,Qa];omega
end
theorem zjs (l:List Rn)(k:Nat)(t:Rn)(a:l[k]?=some t):Dm (l.take (k+1))=Dm (l.take k)++Pw t:=by
 rw[Sv,a,ZG];simp[Dm]
theorem RP (A:Nat->Prop)(w:Sw)(v:Value)(ns:List Rn)(N:Bv w A v ns):Dp ns<=100000000 ->
  Calls prog 101 #[v] w λe M=>e=.returned (.string (S.B (Dm ns)))/\M=w:=by
 induction N with
 |nil=>
  intro hd;clear hd;go_enter func101,ntmps101;go_wp2;refine wp_loop_rounds 1 ?_;rw[rounds_succ];go_wp2;go_ret;exact⟨rfl,rfl⟩
 |some b z am ns a3 R aw D G L=>
  intro hd;have az:=Zy ns;have ay:ns.length<=100000000:=Z;have T:=V D;have W:=V G;have af:=V L;have x:=V hd;clear D G L R;go_enter func101,ntmps101;go_wp2;go_loop [3,4] (λh i=>∃a:Nat,a<=ns.length/\i=.int .i64 a/\h=.string (S.B (Dm (ns.take a)))) (λ_ i=>ns.length-(intOf i).toNat)
  case atStart=>exact⟨0,Qt _,rfl,by simp[Dm];rfl⟩
  case round=>
   obtain⟨a,ax,rfl,rfl⟩:=hrel;by_cases ac:a<ns.length
   ·obtain⟨h,k⟩:∃h,ns[a]?=some h:=⟨ns[a],Qg ac⟩;have l:=T.q a h k;have F:=W.q a h k;have E:=CR ns a h k;have t:=af.q a h k;have K:=zjs ns a h k;have ab:=Rx (ns.take a);have ae:=DZ ns a;obtain⟨ag,ai,ah,H⟩:=F.form;rw[H]at l t;obtain⟨m,s⟩:=Qyy (S.B (Dm (ns.take a)));have av:m.size<=100000000:=(by rw[<-s,S.Bc];omega);have d:U (∀C:Sb,Pw h=C.data.toList->m++C=S.B (Dm (ns.take (a+1)))):=V (λC f=>by rw[<-s,BU,K,f]);rw[s];cases h with
    |nd g n a2 u a4 y=>
    simp only[Pw]at d;simp only[H7]at E;simp only[Rn.Ab]at t;have aj:w.cell? (b (z+a*7+1))=some (.int .i64 g):=l 1 _ rfl;have ak:w.cell? (b (z+a*7+4))=some (.string (S.B u)):=l 4 _ rfl;have al:w.cell? (b (z+a*7+6))=some (.slice ag ai ah):=l 6 _ rfl;have au:(a:Int)<(ns.length:Int):=Z;have ar:(0:Int)<=(a:Int):=Z;have a1:(S.B u).size<=100000000:=(by rw[S.Bc];have:=x.q;omega);have Q:=Rx y;have a0:(S.B (Dm y)).size<=100000000:=(by rw[S.Bc];have:=x.q;omega);have P:=V (t (by have:=x.q;omega));clear l F t H K ab ae s k E Q;by_cases q:g=8
    ·have f:=V (d.q (S.B u) (by rw[if_pos (.inl q),S.Bq]));subst q;clear d;go_wp2;go_round
     case rel=>exact⟨a+1,Z,by go_num,by rw[f.q]⟩
     case measure=>exact Sj
    have ap:(g == 8)=false:=(by rw[Qe];exact q);by_cases p:g=11
    ·have f:=V (d.q (S.B u) (by rw[if_pos (.inr p),S.Bq]));subst p;clear d;go_wp2;go_round
     case rel=>exact⟨a+1,Z,by go_num,by rw[f.q]⟩
     case measure=>exact Sj
    have ao:(g == 11)=false:=(by rw[Qe];exact p);have j:¬(g=8\/g=11):=λe=>e.elim q p;by_cases r:g=9
    ·have f:=V (d.q ⟨#[32]⟩ (by rw[if_neg j,if_pos (.inl r)]));subst r;clear d j;go_wp2;go_round
     case rel=>exact⟨a+1,Z,by go_num,by rw[f.q]⟩
     case measure=>exact Sj
    have aq:(g == 9)=false:=(by rw[Qe];exact r);by_cases o:g=10
    ·have f:=V (d.q ⟨#[32]⟩ (by rw[if_neg j,if_pos (.inr o)]));subst o;clear d j;go_wp2;go_round
     case rel=>exact⟨a+1,Z,by go_num,by rw[f.q]⟩
     case measure=>exact Sj
    have an:(g == 10)=false:=(by rw[Qe];exact o);have f:=V (d.q (S.B (Dm y)) (by rw[if_neg j,if_neg (λe=>e.elim r o),S.Bq]));clear d j;go_wp2_with (fail);apply P.m;rintro e M⟨rfl,rfl⟩;go_wp2;go_round
    case rel=>exact⟨a+1,Z,by go_num,by rw[f.q]⟩
    case measure=>exact Sj
   have aa:a=ns.length:=Z;subst aa;rw[Qbl];go_wp2;go_ret;exact⟨rfl,rfl⟩
