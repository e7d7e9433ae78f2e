import Derived.Test.YtlojgpkajkedeaaGreatDoorOTD
import Derived.Deep.LoopGhost
import Derived.ArgAppend
set_option maxHeartbeats 0
set_option maxRecDepth 100000
namespace Go.Proofs.YtlojgpkajkedeaaGreatDoor
open Go.RowKit Go.Proofs.Tryz
theorem Wh (c:UInt8)(l:List UInt8)(a:Nat)(d:a<S.cnt c l):l[a]?=some c:=by
 induction l generalizing a with
 |nil=>simp[S.cnt]at d
 |cons j h g=>
  simp only[S.cnt]at d;split at d
  ·rename_i f;cases a with
   |zero=>rw[f];rfl
   |succ a=>rw[List.getElem?_cons_succ];exact g a Z
  omega
theorem FN (l:List UInt8)(p:Nat)(d:0<F5 l p):p+2<=F5 l p/\F5 l p<=l.length/\l[F5 l p-1]?=some 62:=by
 unfold F5 at d ⊢;by_cases a:S.Eb (l.drop p)=true
 ·rw[if_pos a]at d ⊢;unfold S.Eb at a;rw[SE,Kw,Qbb,Qn,SL]at a;have f:=(Qb.1 a.2).1;have g:1<=S.Hf (l.drop p):=by unfold S.Hf S.colon;omega
  exact⟨Z,Z,by rw[SF];exact a.2⟩
 rw[if_neg a]at d;omega
theorem zgx (z g:Nat)(l:List UInt8)(k d:Nat)(a:S.Ga z g l k=some d):k<=d/\S.cnt 96 (l.drop (d-k))=z:=by
 induction g generalizing l k with
 |zero=>simp[S.Ga]at a
 |succ g h=>
  cases l with
  |nil=>simp[S.Ga]at a
  |cons b o=>
   simp only[S.Ga]at a;split at a
   ·split at a
    ·rename_i m;cases a;exact⟨Qc _,by rw[Nat.sub_self];exact m⟩
    obtain⟨j,f⟩:=h _ _ a;refine⟨Z,?_⟩;rw[Qbb]at f;rw[<-f];congr 2;omega
   obtain⟨j,f⟩:=h _ _ a;refine⟨Z,?_⟩;rw[show d-k=(d-(k+1))+1 by omega,List.drop_succ_cons];exact f
theorem CK (l:List UInt8)(p:Nat)(k:1<=S.cnt 96 (l.drop p))(f:0<Jd l p):p+S.cnt 96 (l.drop p)+S.cnt 96 (l.drop p)<=Jd l p/\Jd l p<=l.length/\l[Jd l p-1]?=some 96:=by
 unfold Jd at f ⊢;cases a:S.Ji (l.drop p) (S.cnt 96 (l.drop p)) with
 |none=>rw[a]at f;simp[Xt]at f
 |some d=>
  obtain⟨n,j⟩:=Qyy (S.cnt 96 (l.drop p));rw[j]at a k ⊢;have h:n<=(l.drop p).length:=by rw[<-j];exact S.Gf 96 _
  have m:=S.Y5 _ _ _ h a;rw[Qf]at m h;unfold S.Ji at a;obtain⟨o,g⟩:=zgx _ _ _ _ _ a;rw[Qbb,Qbb]at g;show p+n+n<=p+d+n/\p+d+n<=l.length/\l[p+d+n-1]?=some 96;refine⟨Z,Z,?_⟩;have:=Wh 96 _ (n-1) (by rw[g];omega);rw[Qn]at this;rw[<-this];congr 1;omega
theorem zjn (l:List UInt8)(p:Nat)(d:0<tgt l p):l[tgt l p-1]?=some 41:=by
 unfold tgt at d ⊢;by_cases a:S.Gg (l.drop p)=true
 ·rw[if_pos a]at d ⊢;unfold S.Gg at a;rw[SE,Kw,Kw]at a;have f:=a.2;rw[Qbb,Qbb,Qn,SL]at f;rw[<-f];congr 1;omega
 rw[if_neg a]at d;omega
theorem Jl.place {l m:List Af}{t:List UInt8}{p d:Nat}(a:Jl l t p m d)(h:t[p]?=some 93):p<d/\d<=t.length/\Dz t d=0:=by
 have o:=(Qb.1 h).1;have f:=Mr t p 93 h J;rcases a with ⟨_,_,a⟩|⟨_,_,_,_,_,_,a⟩|⟨_,_,_,_,_,_,g,_,_,a⟩
 ·rw[a];exact⟨Z,Z,f⟩
 ·rw[a];exact⟨Z,Z,f⟩
 have j:=WW t (p+1) g;have k:=zjn t (p+1) g;rw[a];refine⟨Z,j.2,?_⟩;have:=Mr t (tgt t (p+1)-1) 41 k J;rwa [Nat.sub_add_cancel Z]at this
theorem Jl.nums {l j:List Af}{t:List UInt8}{p q:Nat}(d:Jl l t p j q)(N:Nat)(g:∀f∈l,f.n<=N):∀f∈j,f.n<=N:=by
 intro f a;rcases d with ⟨_,d,_⟩|⟨o,k,_,h,_,d,_⟩|⟨o,k,s,_,h,_,_,_,d,_⟩
 ·rw[d,Qbh,Qbi]at a;rcases a with a|a
  ·exact g f a
  rw[a];exact Qt _
 ·rw[d,Qbh,Qbi]at a;rcases a with a|a
  ·rcases List.mem_or_eq_of_mem_set a with a|a
   ·exact g f a
   rw[a];exact g k (SN h)
  rw[a];exact Qt _
 rw[d,Qbh,Qbi,List.mem_map]at a;rcases a with ⟨r,m,rfl⟩|a
 ·have:=g r (List.mem_of_mem_take m);unfold Dq;split
  ·exact this
  exact this
 rw[a];exact Qt _
theorem WL.closed {w wr w2:Sw}{t:List UInt8}{j f:List (Af×Value)}{i h:Nat}{a k:So}{q l:Nat}(d:WL w t j i a q wr)(s:t[i]?=some 93)(z:Hu t (j.map Prod.fst) i (f.map Prod.fst) h)(g:Jl (j.map Prod.fst) t i (f.map Prod.fst) h)(y:Dt (λp=>w<=p) w f (.slice k f.length l) w2)(r:Below w wr w2):WL w t f h k l w2:=by
 have m:=g.small;have K:=g.place s;rw[List.length_map,List.length_map]at m;rw[<-NR,<-NR]at m;have G:=d.len;have H:=d.tot;refine⟨y,Z,Z,λL E u=>?_,Z,λD x=>d.toL D (.step _ _ _ _ _ z x),d.below.trans r⟩;refine g.nums 1000000 (λp o=>?_) E.1 (List.mem_map_of_mem (SN u));rw[List.mem_map]at o;obtain⟨F,A,rfl⟩:=o;obtain⟨C,v⟩:=List.getElem?_of_mem A;exact d.nums C F v
structure EZ (s:Sb)(lv iv:Value)(a:Act):Prop where
 size:a.tmps.size=252
 zero:a.tmps[0]?=some (.string s)
 Cc:a.tmps[3]?=some lv
 four:a.tmps[4]?=some iv
 defers:a.defers=[]
theorem IX (l:List Value)(f:l.length=252):∃a:Nat->Value,l=[a 0,a 1,a 2,a 3,a 4,a 5,a 6,a 7,a 8,a 9,a 10,a 11,a 12,a 13,a 14,a 15,a 16,a 17,a 18,a 19,a 20,a 21,a 22,a 23,a 24,a 25,a 26,a 27,a 28,a 29,a 30,a 31,a 32,a 33,a 34,a 35,a 36,a 37,a 38,a 39,a 40,a 41,a 42,a 43,a 44,a 45,a 46,a 47,a 48,a 49,a 50,a 51,a 52,a 53,a 54,a 55,a 56,a 57,a 58,a 59,a 60,a 61,a 62,a 63,a 64,a 65,a 66,a 67,a 68,a 69,a 70,a 71,a 72,a 73,a 74,a 75,a 76,a 77,a 78,a 79,a 80,a 81,a 82,a 83,a 84,a 85,a 86,a 87,a 88,a 89,a 90,a 91,a 92,a 93,a 94,a 95,a 96,a 97,a 98,a 99,a 100,a 101,a 102,a 103,a 104,a 105,a 106,a 107,a 108,a 109,a 110,a 111,a 112,a 113,a 114,a 115,a 116,a 117,a 118,a 119,a 120,a 121,a 122,a 123,a 124,a 125,a 126,a 127,a 128,a 129,a 130,a 131,a 132,a 133,a 134,a 135,a 136,a 137,a 138,a 139,a 140,a 141,a 142,a 143,a 144,a 145,a 146,a 147,a 148,a 149,a 150,a 151,a 152,a 153,a 154,a 155,a 156,a 157,a 158,a 159,a 160,a 161,a 162,a 163,a 164,a 165,a 166,a 167,a 168,a 169,a 170,a 171,a 172,a 173,a 174,a 175,a 176,a 177,a 178,a 179,a 180,a 181,a 182,a 183,a 184,a 185,a 186,a 187,a 188,a 189,a 190,a 191,a 192,a 193,a 194,a 195,a 196,a 197,a 198,a 199,a 200,a 201,a 202,a 203,a 204,a 205,a 206,a 207,a 208,a 209,a 210,a 211,a 212,a 213,a 214,a 215,a 216,a 217,a 218,a 219,a 220,a 221,a 222,a 223,a 224,a 225,a 226,a 227,a 228,a 229,a 230,a 231,a 232,a 233,a 234,a 235,a 236,a 237,a 238,a 239,a 240,a 241,a 242,a 243,a 244,a 245,a 246,a 247,a 248,a 249,a 250,a 251]/\∀i,i<252->l[i]?=some (a i):=by
 refine⟨λi=>l[i]?.getD undef,?_,?_⟩
 ·show l=(List.range 252).map (λi=>l[i]?.getD undef);apply List.ext_getElem?
  intro i;rw[SA];by_cases d:i<252
  ·rw[List.getElem?_range d,Qg Z,Sq,Qg Z];rfl
  rw[Qr Z,Qr (by simp;omega)];rfl
 intro i d;show l[i]?=some (l[i]?.getD undef);rw[Qg Z];rfl
theorem EZ.q {s:Sb}{g f:Value}{a:Act}(u:EZ s g f a):∃d:Nat->Value,a = { tmps:=#[s,d 1,d 2,g,f,d 5,d 6,d 7,d 8,d 9,d 10,d 11,d 12,d 13,d 14,d 15,d 16,d 17,d 18,d 19,d 20,d 21,d 22,d 23,d 24,d 25,d 26,d 27,d 28,d 29,d 30,d 31,d 32,d 33,d 34,d 35,d 36,d 37,d 38,d 39,d 40,d 41,d 42,d 43,d 44,d 45,d 46,d 47,d 48,d 49,d 50,d 51,d 52,d 53,d 54,d 55,d 56,d 57,d 58,d 59,d 60,d 61,d 62,d 63,d 64,d 65,d 66,d 67,d 68,d 69,d 70,d 71,d 72,d 73,d 74,d 75,d 76,d 77,d 78,d 79,d 80,d 81,d 82,d 83,d 84,d 85,d 86,d 87,d 88,d 89,d 90,d 91,d 92,d 93,d 94,d 95,d 96,d 97,d 98,d 99,d 100,d 101,d 102,d 103,d 104,d 105,d 106,d 107,d 108,d 109,d 110,d 111,d 112,d 113,d 114,d 115,d 116,d 117,d 118,d 119,d 120,d 121,d 122,d 123,d 124,d 125,d 126,d 127,d 128,d 129,d 130,d 131,d 132,d 133,d 134,d 135,d 136,d 137,d 138,d 139,d 140,d 141,d 142,d 143,d 144,d 145,d 146,d 147,d 148,d 149,d 150,d 151,d 152,d 153,d 154,d 155,d 156,d 157,d 158,d 159,d 160,d 161,d 162,d 163,d 164,d 165,d 166,d 167,d 168,d 169,d 170,d 171,d 172,d 173,d 174,d 175,d 176,d 177,d 178,d 179,d 180,d 181,d 182,d 183,d 184,d 185,d 186,d 187,d 188,d 189,d 190,d 191,d 192,d 193,d 194,d 195,d 196,d 197,d 198,d 199,d 200,d 201,d 202,d 203,d 204,d 205,d 206,d 207,d 208,d 209,d 210,d 211,d 212,d 213,d 214,d 215,d 216,d 217,d 218,d 219,d 220,d 221,d 222,d 223,d 224,d 225,d 226,d 227,d 228,d 229,d 230,d 231,d 232,d 233,d 234,d 235,d 236,d 237,d 238,d 239,d 240,d 241,d 242,d 243,d 244,d 245,d 246,d 247,d 248,d 249,d 250,d 251],defers:=[] }:=by
 obtain⟨A,C⟩:=a;obtain⟨p⟩:=A;obtain⟨j,k,l,m,o⟩:=u;simp only at j k l m o;obtain⟨d,x,y⟩:=IX p (by simpa using j);refine⟨d,?_⟩;have e:∀i h,i<252->p[i]?=some h->d i=h:=λi h v z=>by
  have:=y i v;rw[z]at this;exact(Qy this).symm
 have q:=e 0 (.string s) Z (by simpa using k);have r:=e 3 g Z (by simpa using l);have t:=e 4 f Z (by simpa using m);rw[x,o,q,r,t]
structure CB (s:Sb)(lv iv nv:Value)(a:Act):Prop where
 size:a.tmps.size=252
 zero:a.tmps[0]?=some (.string s)
 Cc:a.tmps[3]?=some lv
 four:a.tmps[4]?=some iv
 ten:a.tmps[10]?=some nv
 defers:a.defers=[]
theorem CB.q {s:Sb}{g f h:Value}{a:Act}(y:CB s g f h a):∃d:Nat->Value,a = { tmps:=#[s,d 1,d 2,g,f,d 5,d 6,d 7,d 8,d 9,h,d 11,d 12,d 13,d 14,d 15,d 16,d 17,d 18,d 19,d 20,d 21,d 22,d 23,d 24,d 25,d 26,d 27,d 28,d 29,d 30,d 31,d 32,d 33,d 34,d 35,d 36,d 37,d 38,d 39,d 40,d 41,d 42,d 43,d 44,d 45,d 46,d 47,d 48,d 49,d 50,d 51,d 52,d 53,d 54,d 55,d 56,d 57,d 58,d 59,d 60,d 61,d 62,d 63,d 64,d 65,d 66,d 67,d 68,d 69,d 70,d 71,d 72,d 73,d 74,d 75,d 76,d 77,d 78,d 79,d 80,d 81,d 82,d 83,d 84,d 85,d 86,d 87,d 88,d 89,d 90,d 91,d 92,d 93,d 94,d 95,d 96,d 97,d 98,d 99,d 100,d 101,d 102,d 103,d 104,d 105,d 106,d 107,d 108,d 109,d 110,d 111,d 112,d 113,d 114,d 115,d 116,d 117,d 118,d 119,d 120,d 121,d 122,d 123,d 124,d 125,d 126,d 127,d 128,d 129,d 130,d 131,d 132,d 133,d 134,d 135,d 136,d 137,d 138,d 139,d 140,d 141,d 142,d 143,d 144,d 145,d 146,d 147,d 148,d 149,d 150,d 151,d 152,d 153,d 154,d 155,d 156,d 157,d 158,d 159,d 160,d 161,d 162,d 163,d 164,d 165,d 166,d 167,d 168,d 169,d 170,d 171,d 172,d 173,d 174,d 175,d 176,d 177,d 178,d 179,d 180,d 181,d 182,d 183,d 184,d 185,d 186,d 187,d 188,d 189,d 190,d 191,d 192,d 193,d 194,d 195,d 196,d 197,d 198,d 199,d 200,d 201,d 202,d 203,d 204,d 205,d 206,d 207,d 208,d 209,d 210,d 211,d 212,d 213,d 214,d 215,d 216,d 217,d 218,d 219,d 220,d 221,d 222,d 223,d 224,d 225,d 226,d 227,d 228,d 229,d 230,d 231,d 232,d 233,d 234,d 235,d 236,d 237,d 238,d 239,d 240,d 241,d 242,d 243,d 244,d 245,d 246,d 247,d 248,d 249,d 250,d 251],defers:=[] }:=by
 obtain⟨E,F⟩:=a;obtain⟨r⟩:=E;obtain⟨k,l,m,o,q,p⟩:=y;simp only at k l m o p q;obtain⟨d,A,C⟩:=IX r (by simpa using k);refine⟨d,?_⟩;have e:∀i j,i<252->r[i]?=some j->d i=j:=λi j z D=>by
  have:=C i z;rw[D]at this;exact(Qy this).symm
 have t:=e 0 (.string s) Z (by simpa using l);have v:=e 3 g Z (by simpa using m);have x:=e 4 f Z (by simpa using o);have u:=e 10 h Z (by simpa using q);rw[A,p,t,v,x,u]
theorem GZ (c:UInt8)(l:List UInt8):l[S.cnt c l]?≠some c:=by
 induction l with
 |nil=>simp
 |cons g f d=>
  simp only[S.cnt];split
  ·rw[List.getElem?_cons_succ];exact d
  rename_i a;simpa using a
theorem zd8 (t:List UInt8)(i:Nat)(h:i<=t.length):Dz t i<=i/\(∀a,a<Dz t i->t[i-1-a]?=some 32)/\(Dz t i<i->t[i-1-Dz t i]?≠some 32):=by
 have j:(t.take i).reverse.length=i:=by rw[List.length_reverse,Ql];omega
 have d:∀a,a<i->(t.take i).reverse[a]?=t[i-1-a]?:=λa f=>by
  rw[List.getElem?_reverse (by rw[Ql];omega),Ql,SI h,List.getElem?_take,if_pos Z]
 have k:Dz t i<=i:=by have:=S.Gf 32 (t.take i).reverse;rw[j]at this;exact this
 refine⟨k,λa f=>?_,λg=>?_⟩;·rw[<-d a Z];exact Wh 32 _ a f
 rw[<-d _ g];exact GZ 32 _
theorem WL.line {w wr w2:Sw}{t:List UInt8}{g:List (Af×Value)}{i f:Nat}{a:So}{F:Nat}{p:Obj}{v:Value}{np:Af}(j:WL w t g i a F wr)(W:Hu t (g.map Prod.fst) i ((g.map Prod.fst).take f++[np]) (i+1))(ak:f<=g.length)(an:np.s.length+np.left=0)(al:np.n=0)(R:np.node.Ab=[])(aa:Dz t (i+1)=0)
  (A:w2.ownsRow (wr.alloc p).heap.size 196 16 v (f+1) (Ba (g.take f)++Dg np (.slice none 0 0))) (s:(wr.alloc p).grownBy w2 none) :
  ∃D l o,v=.slice (some ⟨l,0,none⟩) (f+1) o/\D.length=f+1/\WL w t D (i+1) (some ⟨l,0,none⟩) o w2:=by
 have ab:=j.below.size;have r:Below wr wr (wr.alloc p):=Sr.alloc (Qc _) p;have am:=r.size;have y:(g.take f).length=f:=by rw[Ql];omega
 obtain⟨l,o,rfl,ai,aj⟩:=A.form Z;have Q:∀h,h<wr.heap.size->w2.heap[h]?=wr.heap[h]?:=λh m=>by rw[s.block h Z Y,r.block h m]
 refine⟨g.take f++[(np,.slice none 0 0)],l,o,rfl,by simp;omega,⟨⟨?_,?_⟩,λk C d=>?_⟩,?_,?_,?_,?_,?_,?_⟩;·rw[Pz]
 ·rcases A.2 with ⟨q,_⟩|⟨P,E,G,q,af,H,K,L,M,N⟩
  ·cases q
  refine .inr ⟨P,E,G,?_,Z,H,?_,L,M,?_⟩;·rw[Qa,y];exact q
  ·rw[Qa,y];exact K
  rw[Qa,y,ME];have e:Ba [(np,Value.slice none 0 0)]=Dg np (.slice none 0 0):=by simp[Ba]
  rw[e];exact N
 ·by_cases x:k<(g.take f).length
  ·rw[Qbd x,List.getElem?_take,if_pos Z]at d;refine(j.own.Ab k C d).move (λh m=>⟨m.1,by have:=s.size;omega,?_⟩) (λh m=>Q h m.2.1);show some h≠some l;intro e;injection e with e;omega
  rw[Qu Z]at d;have u:k-(g.take f).length=0:=by have:=(Qb.1 d).1;simp at this;omega
  rw[u]at d;simp at d;subst d;rw[R];exact .nil
 ·have:=j.len;simp;omega
 ·rw[Rt,Ry];have ag:=Vd g f;have ah:=j.tot;have e:Ct ([]:List (Af×Value))=0:=rfl;rw[e];show Ct (g.take f)+(np.s.length+np.left+0)<=i+1;omega
 ·intro k ae d;by_cases x:k<(g.take f).length
  ·rw[Qbd x,List.getElem?_take,if_pos Z]at d;exact j.nums k ae d
  rw[Qu Z]at d;have u:k-(g.take f).length=0:=by have:=(Qb.1 d).1;simp at this;omega
  rw[u]at d;simp at d;subst d;show np.n<=1000000;omega
 ·rw[aa];exact Qt _
 ·intro ac z;rw[Qv,List.map_take]at z;exact j.toL ac (.step _ _ _ _ _ W z)
 exact j.below.trans (Sqi (r.mono ab) s Z (λC T=>by cases T))
theorem zo3 (p:Af)(a:So)(n c:Nat):∀f∈Dg p (.slice a n c),f.oneCell'=true:=by
 intro f d;simp only[Dg,List.mem_cons,List.not_mem_nil,or_false]at d;rcases d with rfl|rfl|rfl|rfl|rfl|rfl|rfl|rfl|rfl|rfl|rfl|rfl|rfl|rfl|rfl|rfl<;>rfl
theorem Aa {u:Array Oper}{rest:List Oper}{o:Oper}{a:Act}{t:Exit->Act->World->Prop}(d:Sw)(p:Af)(g:So)(j h:Nat)(C:o.guard=none)(s q:Operand)(K:o.op=.call { callee:=.builtin .append,args:=#[s,q],argTypes:=#[194,194] })
  (l:Nat) (v:Value) (n:Nat) (r:List Value) (M:a.eval s=v) (L:(d.alloc (.cells (Dg p (.slice g j h)).toArray 196)).ownsRow l 196 16 v n r) (N:a.eval q=.slice (some d) 1 1) (T:n<=9000000) (R:l<=d)
  (x:∀f m k,k.ownsRow l 196 16 (.slice (some ⟨f,0,none⟩) (n+1) m) (n+1) (r++Dg p (.slice g j h))->(d.alloc (.cells (Dg p (.slice g j h)).toArray 196)).grownBy k v.ownBlock->(v.ownBlock=some f\/f=(d:Nat)+1)->wpList prog u t rest (a.put o.dst (.slice (some ⟨f,0,none⟩) (n+1) m)) k) :
  wpList prog u t (o::rest) a (d.alloc (.cells (Dg p (.slice g j h)).toArray 196)):=by
 obtain⟨i0,D,E,F,G⟩:=info_parts Tryz.DT;exact wpList_append_lies _ C s q 194 K l 196 i0 (.agg #[O,(),O,O,O,(),(),O,Sx,.int .u8 0,O,O,false,false,false,false]) 16 144 underlying194 D E F G rfl J v n r M L d 1 1 (Dg p (.slice g j h)) N rfl (λP Q H=>World.news_of_block (Ak _ _) P Q (by simpa using H)) (zo3 p g j h) J (by unfold maxLen;omega) Z (by simp;omega) ((d:Nat)+1) Y (λf m k y z A _=>x f m k y z A)
theorem ZL:Vg (λf ns=>Dn f [] 0 ns):=by
 intro f w cu;obtain⟨i0,b4,b5,b6,b7⟩:=info_parts Tryz.DT;obtain⟨h,da⟩:=Qyy (f.data.toList);have c9:=V (WL.start w h);have ax:=V da;have a7:U (h.length=f.size):=V (by rw[<-da,S.lda]);rw[da];clear da;go_enter func95,ntmps95;go_upto_region 3 with fail
 refine wp_loop_ghost_k (λgk ce wr=>∃(i de E:Nat) (D:So),i<=f.size/\gk=f.size-i/\EZ f (.slice D de E) (.int .i64 (i:Nat)) ce/\de<=i/\U (∃a,de=a.length/\WL w h a i D E wr)) f.size ⟨0,0,0,none,Qt _,rfl,⟨rfl,rfl,rfl,rfl,rfl⟩,Qc _,V ⟨[],rfl,c9.q⟩⟩ ?_;rintro gk ce wr⟨i,de,E,D,h8,fa,e5,ib,bs⟩ hh hj av ht;obtain⟨cc,rfl⟩:=e5.q;have a1:=V fa;clear fa e5;clear c9;obtain⟨a,gt,du⟩:=bs.q;subst gt;have v:=V du;have fq:w<=wr.heap.size:=du.below.size;clear bs du;by_cases b8:i<f.size
 ·have fz:(i:Int)<(f.size:Int):=Z;have ho:(0:Int)<=(i:Int):=Z;obtain⟨R,ea⟩:=Qyy (f.extract (i+1) (i+2));have br:U (R.data.toList=(h.drop (i+1)).take 1):=V (by rw[<-ea,Kr,ax.q,show i+2-(i+1)=1 by omega]);have gq:=V ea;clear ea;obtain⟨c,d0⟩:=Qyy (f[i]);have aj:U (h[i]?=some c):=V (by rw[<-ax.q,S.Bz f i b8,d0]);have il:IntKind.i64.wrap ((i:Int)+1)=(i:Int)+1:=by rw[Sqe];omega
  have im:IntKind.i64.wrap ((i:Int)+2)=(i:Int)+2:=by rw[Sqe];omega
  go_upto_if 21 with fail
  go_cut [5] from 22 to 27 (λhf H=>hf=.string R/\wr=H)
  case first=>
   by_cases d:i+1<f.size
   ·have fv:(i:Int)+1<(f.size:Int):=Z;have cy:(i:Int)+2<=(f.size:Int):=Z;have hm:(0:Int)<=(i:Int)+1:=Z;have hn:(i:Int)+1<=(i:Int)+2:=Z;go_wp2;go_meet;exact⟨by rw[gq.q],rfl⟩
   have fv:¬(i:Int)+1<(f.size:Int):=Z;have A:U (R=⟨#[]⟩):=V (by
    rw[<-S.El R,br.q,Qw (by rw[a7.q];omega)];rfl)
   go_wp2;go_meet;exact⟨by rw[A.q],rfl⟩
  case rest=>
  obtain⟨rfl,rfl⟩:=hcut;have bf:U (∀(z:Sw) t,Below wr wr z->(z.alloc t).ownsRow w 196 16 (.slice D a.length E) a.length (Ba a)):=V (λz t bp=>(v.q.own.after (bp.alloc bp.size t)).own);obtain⟨el,eo⟩:=Qyy (a.map Prod.fst);obtain⟨cf,dx⟩:=Qyy (decide (h[i+1]?=some 10));have cs:R.toList=(h.drop (i+1)).take 1:=by rw[ByteArray.toList_eq];exact br.q
  have cg:(R.toList == [10])=cf:=by
   rw[cs,<-dx];cases j:h[i+1]? with
   |none=>rw[Qw (List.getElem?_eq_none_iff.1 j)];rfl
   |some aa=>
    obtain⟨d,g⟩:=Qb.1 j;rw[Qm d,g,Qz,List.take_zero];by_cases e:aa=10
    ·subst e;rfl
    rw[Si (by simpa using e)];simp[e]
  have e1:=V dx;have hv:=V eo;have gp:=V cs;have c8:U (∀dd aa,h[dd]?=some aa->aa≠32->Dz h (dd+1)<=a.length+1):=V (λdd aa d g=>by rw[Mr h dd aa d g];omega);clear dx eo cs;obtain⟨bv,ai⟩:∃bv:Bool,(decide (c=92)&&cf)=bv:=⟨_,rfl⟩;have aw:=V ai;clear ai;go_upto_region 9 with fail
  go_cut [39] from 40 to 47 (λhe H=>he=.bool bv/\wr=H)
  case first=>
   by_cases az:c=92
   ·have ap:((c.toNat:Int) == 92)=true:=(by rw[az];rfl);have A:U (bv=cf):=V (by rw[<-aw.q,Sl az,Bool.true_and]);clear az;go_wp2;go_meet;exact⟨by rw[A.q],rfl⟩
   have ap:((c.toNat:Int) == 92)=false:=by
    rw[Qe];intro j;exact az (Qk.1 (by show c.toNat=92;omega))
   have A:U (bv=false):=V (by rw[<-aw.q,Si az];rfl);clear az;go_wp2;go_meet;exact⟨by rw[A.q],rfl⟩
  case rest=>
  obtain⟨rfl,rfl⟩:=hcut;cases bv
  case true=>
   have a2:U (c=92/\h[i+1]?=some 10):=V (by
    have:=aw.q;rw[SE,Sd]at this;exact⟨this.1,by have g:=e1.q;rw[this.2]at g;exact of_decide_eq_true g⟩)
   have fb:i+2<=f.size:=by
    have:=(Qb.1 a2.q.2).1;rw[a7.q]at this;omega
   have ag:U (Hu h (a.map Prod.fst) i (a.map Prod.fst++[Gi 10 []]) (i+2)):=V ⟨c,aj.q,by rw[if_pos a2.q];exact⟨rfl,rfl⟩⟩;have am:=V (c8.q (i+1) 10 a2.q.2 J);have aq:w<=wr.heap.size:=Z;have K:U ((i+2)<=f.size):=V Z;have L:U (a.length+1<=(i+2)):=V Z;have M:U (f.size-(i+2)<gk):=V (by have:=a1.q;omega);go_wp2_with (at_builtin;refine Aa wr (Gi 10 []) none 0 0 I _ _ I w (.slice D a.length E) a.length (Ba a) I (bf.q wr _ Sr) I Z aq ?_)
   intro x o m s r F;have C:=V (v.q.push (np:=Gi 10 []) (kv:=.slice none 0 0) (ag.q) Z (by simp[Gi,C8]) (by simp[Gi,C8]) (am.q) Sr (.nil) s r F);clear s r F;go_wp2;refine Handed.intro (f.size-(i+2)) M.q (av _ _ _ ⟨(i+2),a.length+1,o,some ⟨x,0,none⟩,K.q,rfl,⟨rfl,rfl,rfl,rfl,rfl⟩,L.q,V (by obtain⟨G,d,g⟩:=C.q;exact⟨G,d.symm,g⟩)⟩)
  case false=>
  have a8:U (¬(c=92/\h[i+1]?=some 10)):=V (λj=>by
   have:=aw.q;rw[Sl j.1,Bool.true_and]at this;have g:=e1.q;rw[this,decide_eq_false_iff_not]at g;exact g j.2)
  clear aw;obtain⟨cx,e0⟩:=Qyy (decide ((h[i+1]?.map S.mark)=some true));have co:=V e0;obtain⟨bi,bk⟩:∃bi:Bool,(decide (c=92)&&cx)=bi:=⟨_,rfl⟩;have bl:=V bk;clear e0 bk;go_upto_region 12 with fail
  go_cut [56] from 57 to 69 (λhg H=>hg=.bool bi/\wr=H)
  case first=>
   by_cases az:c=92
   ·have ap:((c.toNat:Int) == 92)=true:=(by rw[az];rfl);have A:U (bi=cx):=V (by rw[<-bl.q,Sl az,Bool.true_and]);clear az;cases hd:h[i+1]? with
    |none=>
     have gm:R=⟨#[]⟩:=by
      rw[<-S.El R,br.q,Qw (List.getElem?_eq_none_iff.1 hd)];rfl
     have d1:U (bi=false):=V (by rw[A.q,<-co.q,hd];rfl);subst gm;clear cg hd;go_wp2;go_meet;exact⟨by rw[d1.q],rfl⟩
    |some aa=>
     obtain⟨d,g⟩:=Qb.1 hd;have d8:R.data.toList=[aa]:=(by rw[br.q,Qm d,g];rfl);have gr:R.size=1:=(by rw[<-S.lda,d8];rfl);have ec:0<R.size:=Z;have ic:R[0]=aa:=by
      have:=S.Bz R 0 ec;rw[d8]at this;exact(Qy this).symm
     have hy:=S.Np R ec;have hx:=S.K9 R ec;have f2:=V (TF aa wr);have d1:U (bi=S.mark aa):=V (by rw[A.q,<-co.q,hd,Sq];cases S.mark aa<;>simp);have hs:(0:Int)<(R.size:Int):=Z;clear hd d8 gr cg d g;go_wp2_with (go_at_call 133;apply f2.m;rintro e y⟨rfl,rfl⟩)
     go_meet;exact⟨by rw[d1.q],rfl⟩
   have ap:((c.toNat:Int) == 92)=false:=by
    rw[Qe];intro j;exact az (Qk.1 (by show c.toNat=92;omega))
   have A:U (bi=false):=V (by rw[<-bl.q,Si az];rfl);clear az;go_wp2;go_meet;exact⟨by rw[A.q],rfl⟩
  case rest=>
  obtain⟨rfl,rfl⟩:=hcut;cases bi
  case true=>
   have a2:U (c=92/\(h[i+1]?.map S.mark)=some true):=V (by
    have:=bl.q;rw[SE,Sd]at this;exact⟨this.1,by have g:=co.q;rw[this.2]at g;exact of_decide_eq_true g⟩)
   obtain⟨aa,hd⟩:∃aa,h[i+1]?=some aa:=by
    cases j:h[i+1]? with
    |none=>have:=a2.q.2;rw[j]at this;simp at this
    |some aa=>exact⟨aa,rfl⟩
   have fb:i+2<=f.size:=by
    have:=(Qb.1 hd).1;rw[a7.q]at this;omega
   have e4:aa≠32:=by
    intro e;have:=a2.q.2;rw[hd,e]at this;simp[S.mark]at this
   have ag:U (Hu h (a.map Prod.fst) i (a.map Prod.fst++[Cn ((h.drop (i+1)).take 1)]) (i+2)):=V ⟨c,aj.q,by rw[if_neg a8.q,if_pos a2.q];exact⟨rfl,rfl⟩⟩;have am:=V (c8.q (i+1) aa hd e4);have ck:U (Calls prog 134 #[R] wr λe y=>e=.returned (.agg #[O,R,O,O,O,(),(),O,Sx,.int .u8 0,O,O,false,false,false,false])/\Below wr wr y):=V ((Wy R wr).mono (λe y ⟨d,g⟩=>⟨by rw[d];unfold N9 Dg Cn;simp only[S.El];rfl,g⟩));clear hd e4 cg;go_wp2_with (fail);apply ck.m;rintro e z⟨rfl,ai⟩;have aw:=V ai;have db:wr<=z.heap.size:=ai.size;clear ai;have aq:w<=z.heap.size:=Z;have K:U ((i+2)<=f.size):=V Z;have L:U (a.length+1<=(i+2)):=V Z;have M:U (f.size-(i+2)<gk):=V (by have:=a1.q;omega);go_wp2_with (at_builtin;refine Aa z (Cn R) none 0 0 I _ _ I w (.slice D a.length E) a.length (Ba a) I (bf.q z _ (aw.q)) I Z aq ?_)
   intro x o m s r F;rw[br.q]at s;have C:=V (v.q.push (np:=Cn ((h.drop (i+1)).take 1)) (kv:=.slice none 0 0) (ag.q) Z (by rw[<-br.q];simp[Cn,br.q];omega) (by simp[Cn]) (am.q) (aw.q) (.nil) s r F);clear s r F;go_wp2;refine Handed.intro (f.size-(i+2)) M.q (av _ _ _ ⟨(i+2),a.length+1,o,some ⟨x,0,none⟩,K.q,rfl,⟨rfl,rfl,rfl,rfl,rfl⟩,L.q,V (by obtain⟨G,d,g⟩:=C.q;exact⟨G,d.symm,g⟩)⟩)
  case false=>
  have au:U (¬(c=92/\(h[i+1]?.map S.mark)=some true)):=V (λj=>by
   have:=bl.q;rw[Sl j.1,Bool.true_and]at this;have g:=co.q;rw[this,decide_eq_false_iff_not]at g;exact g j.2)
  clear bl co;obtain⟨dh,et⟩:∃W:Bool,decide (c=96)=W:=⟨_,rfl⟩;have c1:=V et;clear et;go_upto_region 15 with fail
  go_cut [77] from 78 to 81 (λan H=>an=.bool dh/\wr=H)
  case first=>
   have ap:((c.toNat:Int) == 96)=dh:=by
    rw[<-c1.q,SC,Sqb,Sd,<-Qk];exact⟨λj=>by show c.toNat=96;omega,λj=>by have g:c.toNat=96:=j;omega⟩
   go_wp2;go_meet;exact⟨rfl,rfl⟩
  case rest=>
  obtain⟨rfl,rfl⟩:=hcut;cases dh
  case true=>
   have af:U (c=96):=V (of_decide_eq_true c1.q);obtain⟨p,a3⟩:=Qyy (S.cnt 96 (h.drop i));obtain⟨ae,bq⟩:=Qyy (Jd h i);have gc:1<=p:=by
    have d:h.drop i=c::h.drop (i+1):=by
     obtain⟨g,ao⟩:=Qb.1 aj.q;rw[Qm g,ao]
    rw[<-a3,d,af.q];simp[S.cnt]
   have h7:i+p<=f.size:=by rw[<-a3];have:=S.Gf 96 (h.drop i);rw[Qf,a7.q]at this;omega
   have ep:U (Calls prog 126 #[f,i,.int .u8 96] wr λe y=>e=.returned p/\wr=y):=V (by
    have:=Nq f i 96 wr cu Z;rw[ax.q,a3]at this;exact this.mono (λe y ⟨d,g⟩=>⟨d,g.symm⟩))
   have en:U (Calls prog 135 #[f,i] wr λe y=>e=.returned ae/\wr=y):=V (by
    have:=zf4 f i wr cu b8 (by rw[d0];exact af.q);rw[ax.q,bq]at this;exact this)
   have h6:=V a3;have gd:=V bq;have ip:IntKind.i64.wrap ((i:Int)+(p:Int))=((i+p:Nat):Int):=by rw[Sqe];omega
   by_cases e7:0<ae
   ·have e8:=CK h i (by rw[a3];exact gc) (by rw[bq];exact e7);rw[a3,bq,a7.q]at e8;obtain⟨h3,h4,e9⟩:=e8;obtain⟨bj,d2⟩:∃bj,ae=bj+p:=⟨ae-p,Z⟩;obtain⟨cb,fn⟩:=Qyy (f.extract (i+p) bj);obtain⟨bh,ef⟩:=Qyy (S.B (Nj cb));have f5:U (Calls prog 136 #[cb] wr λe y=>e=.returned bh/\wr=y):=V (by
     have:=zc4 cb wr (by rw[<-fn,Sqc];omega);rw[ef]at this;exact this)
    have fp:cb.data.toList=(h.drop (i+p)).take (ae-p-(i+p)):=(by rw[<-fn,Kr,ax.q,d2,SF]);have g1:U (bh.data.toList=Nj ((h.drop (i+p)).take (ae-p-(i+p)))):=V (by rw[<-ef,S.Bq,fp]);have ag:U (Hu h (a.map Prod.fst) i (a.map Prod.fst++[Gi 11 bh.data.toList]) ae):=V ⟨c,aj.q,by rw[if_neg a8.q,if_neg au.q,if_pos af.q,a3,bq,if_pos e7,g1.q];exact⟨rfl,rfl⟩⟩;have am:U (Dz h ae<=a.length+1):=V (by
     have:=Mr h (ae-1) 96 e9 J;rw[Nat.sub_add_cancel Z]at this;omega)
    have h2:(0:Int)<(ae:Int):=Z;have ij:IntKind.i64.wrap ((ae:Int)-(p:Int))=(bj:Int):=(by rw[Sqe];omega);have ik:(ae:Int)-(p:Int)=(bj:Int):=Z;have dr:((i+p:Nat):Int)<=(bj:Int):=Z;have hp:(i:Int)+(p:Int)<=(bj:Int):=Z;have ds:(bj:Int)<=(f.size:Int):=Z;have f1:(0:Int)<=((i+p:Nat):Int):=Z;have dt:U (Dg (Gi 11 bh.data.toList) (.slice none 0 0)=[.int .i64 1,.string ⟨#[]⟩,.int .i64 0,.int .i64 11,.int .i64 0,.string ⟨#[]⟩,.string bh,.int .i64 0,.slice none 0 0,.int .u8 0,.int .i64 0,.int .i64 0,.bool false,.bool false,.bool false,.bool false]):=V (by
     unfold Gi C8 Dg;simp only[Rn.text,S.El];rfl)
    have h5:=V d2;clear d2 e9 ef fp a3 bq;go_wp2_with (fail);apply ep.m;rintro e y⟨rfl,rfl⟩;go_wp2_with (fail);apply en.m;rintro e y⟨rfl,rfl⟩;go_wp2_with (fail);apply f5.m;rintro e y⟨rfl,rfl⟩;have aq:w<=wr.heap.size:=Z;have K:U (ae<=f.size):=V Z;have L:U (a.length+1<=ae):=V Z;have M:U (f.size-ae<gk):=V (by have:=a1.q;omega);go_wp2_with (at_builtin;refine Aa wr (Gi 11 bh.data.toList) none 0 0 I _ _ I w (.slice D a.length E) a.length (Ba a) I (bf.q wr _ Sr) I Z aq ?_)
    intro x o m s r F;have C:=V (v.q.push (np:=Gi 11 bh.data.toList) (kv:=.slice none 0 0) (ag.q) Z (by simp[Gi,C8]) (by simp[Gi,C8]) (am.q) Sr (.nil) s r F);clear s r F;go_wp2;refine Handed.intro (f.size-ae) M.q (av _ _ _ ⟨ae,a.length+1,o,some ⟨x,0,none⟩,K.q,rfl,⟨rfl,rfl,rfl,rfl,rfl⟩,L.q,V (by obtain⟨G,d,g⟩:=C.q;exact⟨G,d.symm,g⟩)⟩)
   have gb:ae=0:=Z;subst gb;obtain⟨ah,ee⟩:=Qyy (f.extract i (i+p));have fj:U (ah.data.toList=(h.drop i).take p):=V (by rw[<-ee,Kr,ax.q,show i+p-i=p by omega]);have ck:U (Calls prog 134 #[ah] wr λe y=>e=.returned (.agg #[O,ah,O,O,O,(),(),O,Sx,.int .u8 0,O,O,false,false,false,false])/\Below wr wr y):=V ((Wy ah wr).mono (λe y ⟨d,g⟩=>⟨by rw[d];unfold N9 Dg Cn;simp only[S.El];rfl,g⟩));have ag:U (Hu h (a.map Prod.fst) i (a.map Prod.fst++[Cn ah]) (i+p)):=V ⟨c,aj.q,by rw[if_neg a8.q,if_neg au.q,if_pos af.q,gd.q,if_neg Z,a3,fj.q];exact⟨rfl,rfl⟩⟩;have am:U (Dz h (i+p)<=a.length+1):=V (by
    have ci:=Wh 96 (h.drop i) (p-1) (by rw[a3];omega);rw[Qn]at ci;have:=Mr h (i+(p-1)) 96 ci J;rw[show i+(p-1)+1=i+p by omega]at this;omega)
   have gy:U (ah.data.toList.length<=p):=V (by rw[fj.q,Ql];omega);have dt:U (Dg (Cn ah) (.slice none 0 0)=[.int .i64 0,.string ah,.int .i64 0,.int .i64 0,.int .i64 0,.string ⟨#[]⟩,.string ⟨#[]⟩,.int .i64 0,.slice none 0 0,.int .u8 0,.int .i64 0,.int .i64 0,.bool false,.bool false,.bool false,.bool false]):=V (by unfold Dg Cn;simp only[S.El];rfl);have dr:(i:Int)<=((i+p:Nat):Int):=Z;have ds:((i+p:Nat):Int)<=(f.size:Int):=Z;have hq:(i:Int)+(p:Int)<=(f.size:Int):=Z;have hr:(i:Int)<=(i:Int)+(p:Int):=Z;clear a3 bq;go_wp2_with (fail);apply ep.m;rintro e y⟨rfl,rfl⟩;go_wp2_with (fail);apply en.m;rintro e y⟨rfl,rfl⟩;go_wp2_with (fail);apply ck.m;rintro e z⟨rfl,ai⟩;have aw:=V ai;have db:wr<=z.heap.size:=ai.size;clear ai;have aq:w<=z.heap.size:=Z;have K:U ((i+p)<=f.size):=V Z;have L:U (a.length+1<=(i+p)):=V Z;have M:U (f.size-(i+p)<gk):=V (by have:=a1.q;omega);go_wp2_with (at_builtin;refine Aa z (Cn ah) none 0 0 I _ _ I w (.slice D a.length E) a.length (Ba a) I (bf.q z _ (aw.q)) I Z aq ?_)
   intro x o m s r F;have C:=V (v.q.push (np:=Cn ah) (kv:=.slice none 0 0) (ag.q) Z (by show ah.data.toList.length+0<=_;have:=gy.q;omega) (by simp[Cn]) (am.q) (aw.q) (.nil) s r F);clear s r F;go_wp2;refine Handed.intro (f.size-(i+p)) M.q (av _ _ _ ⟨(i+p),a.length+1,o,some ⟨x,0,none⟩,K.q,rfl,⟨rfl,rfl,rfl,rfl,rfl⟩,L.q,V (by obtain⟨G,d,g⟩:=C.q;exact⟨G,d.symm,g⟩)⟩)
  case false=>
  have bt:U (¬c=96):=V (of_decide_eq_false c1.q);clear c1;obtain⟨a6,dv⟩:=Qyy (F5 h i);have dq:U (Calls prog 137 #[f,i] wr λe y=>e=.returned a6/\wr=y):=V (by
   have:=zn8 f i wr cu b8;rw[ax.q,dv]at this;exact this)
  obtain⟨bm,eu⟩:∃bm:Bool,(decide (c=60)&&decide (0<a6))=bm:=⟨_,rfl⟩;have b3:=V eu;have cl:=V dv;clear eu dv;go_upto_region 23 with fail
  go_cut [119] from 120 to 129 (λan H=>an=.bool bm/\wr=H)
  case first=>
   by_cases bo:c=60
   ·have ap:((c.toNat:Int) == 60)=true:=(by rw[bo];rfl);by_cases dm:0<a6
    ·have A:U (bm=true):=V (by rw[<-b3.q,Sl bo,Sl dm];rfl);have ft:(0:Int)<(a6:Int):=Z;clear bo;go_wp2_with (go_at_call 137;apply dq.m;rintro e y⟨rfl,rfl⟩)
     go_meet;exact⟨by rw[A.q],rfl⟩
    have A:U (bm=false):=V (by rw[<-b3.q,Si dm,Bool.and_false]);have ft:¬(0:Int)<(a6:Int):=Z;have fu:a6=0:=Z;subst fu;clear bo dm;go_wp2_with (go_at_call 137;apply dq.m;rintro e y⟨rfl,rfl⟩)
    go_meet;exact⟨by rw[A.q],rfl⟩
   have ap:((c.toNat:Int) == 60)=false:=by
    rw[Qe];intro j;exact bo (Qk.1 (by show c.toNat=60;omega))
   have A:U (bm=false):=V (by rw[<-b3.q,Si bo];rfl);clear bo;go_wp2;go_meet;exact⟨by rw[A.q],rfl⟩
  case rest=>
  obtain⟨rfl,rfl⟩:=hcut;cases bm
  case true=>
   have af:U (c=60/\0<F5 h i):=V (by
    have:=b3.q;rw[SE,Sd,Sd]at this;rw[cl.q];exact this)
   have eq:=FN h i af.q.2;rw[cl.q,a7.q]at eq;obtain⟨hz,h0,er⟩:=eq;obtain⟨ac,c0⟩:∃ac,a6=ac+1:=⟨a6-1,Z⟩;obtain⟨ad,b2⟩:=Qyy (f.extract (i+1) ac);have f7:U (ad.data.toList=(h.drop (i+1)).take (F5 h i-1-(i+1))):=V (by rw[<-b2,Kr,ax.q,cl.q,c0,SF]);have ag:U (Hu h (a.map Prod.fst) i (a.map Prod.fst++[Mk ad]) (ac+1)):=V ⟨c,aj.q,by rw[if_neg a8.q,if_neg au.q,if_neg bt.q,if_pos af.q,f7.q];exact⟨rfl,by rw[cl.q,c0]⟩⟩;have am:U (Dz h (ac+1)<=a.length+1):=V (by
    rw[c0,SF]at er;rw[Mr h ac 62 er J];omega)
   subst c0;have iu:IntKind.i64.wrap (((ac+1:Nat):Int)-1)=(ac:Int):=by rw[Sqe];omega
   have iv:IntKind.i64.wrap (ac:Int)=(ac:Int):=by rw[Sqe];omega
   have iw:(ac:Int)+1-1=(ac:Int):=Z;have dr:(i:Int)+1<=(ac:Int):=Z;have ds:(ac:Int)<=(f.size:Int):=Z;have f1:(0:Int)<=(i:Int)+1:=Z;have g3:((i:Int)+1).toNat=i+1:=Z;obtain⟨u,a0⟩:=Qzz (wr.alloc (.cells #[O,(8:Int),O,(),ad,O,Sx] 118));have bk:Below wr wr u:=by rw[a0];exact Sr.alloc (Qc _) _
   have ab:u.heap[wr.heap.size]?=some (.cells #[O,(8:Int),O,(),ad,O,Sx] 118 (0,0)):=by rw[a0];exact Ak _ _
   have c7:u.heap.size=(wr:Nat)+1:=by rw[a0];simp
   have gw:U (Bv u (λW=>wr.heap.size<=W/\W<u) (.slice (some wr) 1 1) (Mk ad).node.Ab):=V (by
    refine Bv.some (ns:=[.nd 8 0 [] ad.data.toList 0 []]) wr 0 1 (λ_=>.slice none 0 0) ⟨Qc _,Z⟩ (Qc _) (λar W N dg cd dc=>?_) (λar W N=>?_)
    ·have d3:ar=0:=(by have:=(Qb.1 N).1;simp at this;exact this);subst d3;simp at N;subst N;have g9:(#[O,(8:Int),O,(),ad,O,Sx]:Array Value)[dg]?=some cd:=by
      rw[<-dc];unfold Ko;simp only[Rn.text,S.El,List.getElem?_toArray];rfl
     rw[show 0+0*7+dg=dg by omega];exact X ab dg cd g9
    have d3:ar=0:=(by have:=(Qb.1 N).1;simp at this;exact this);subst d3;simp at N;subst N;exact .nil)
   have db:wr<=u.heap.size:=Z;have bl:=V bk;have ed:=V c7;have h1:=b2;clear bk ab c7;have dt:U (Dg (Mk ad) (.slice (some wr) 1 1)=[.int .i64 1,.string ⟨#[]⟩,.int .i64 0,.int .i64 12,.int .i64 0,.string ad,.string ⟨#[]⟩,.int .i64 0,.slice (some wr) 1 1,.int .u8 0,.int .i64 0,.int .i64 0,.bool false,.bool false,.bool false,.bool false]):=V (by
    unfold Mk C8 Dg;simp only[Rn.info,S.El];rfl)
   go_wp2_with (fail);apply dq.m;rintro e y⟨rfl,rfl⟩;go_upto_region 26 with fail
   have bd:U (∀l∈([(1:Int),(),O,(12:Int),O,ad,(),O,.slice (some wr) 1 1,.int .u8 0,O,O,false,false,false,false]:List Value),l.oneCell'=true):=V (by
    intro l a4;simp only[List.mem_cons,List.not_mem_nil,or_false]at a4;rcases a4 with rfl|rfl|rfl|rfl|rfl|rfl|rfl|rfl|rfl|rfl|rfl|rfl|rfl|rfl|rfl|rfl<;>rfl)
   have bc:U (∀P l,([(1:Int),(),O,(12:Int),O,ad,(),O,.slice (some wr) 1 1,.int .u8 0,O,O,false,false,false,false]:List Value)[P]?=some l->(u.alloc (.cells #[(1:Int),(),O,(12:Int),O,ad,(),O,.slice (some wr) 1 1,.int .u8 0,O,O,false,false,false,false] 196)).cell? ((((wr:Nat)+1) 0:Addr).add P)=some l):=V (λP l N=>by rw[<-ed.q];exact World.news_of_block (Ak _ _) P l (by exact N));have bg:U (∀t x o m,m.ownsRow w 196 16 (.slice (some ⟨x,0,none⟩) (a.length+1) o) (a.length+1) (Ba a++[.int .i64 1,.string ⟨#[]⟩,.int .i64 0,.int .i64 12,.int .i64 0,.string ad,.string ⟨#[]⟩,.int .i64 0,.slice (some wr) 1 1,.int .u8 0,.int .i64 0,.int .i64 0,.bool false,.bool false,.bool false,.bool false])->(u.alloc t).grownBy m (Value.slice D a.length E).ownBlock->((Value.slice D a.length E).ownBlock=some x\/x=(u:Nat)+1)->∃ak,ak.length=a.length+1/\WL w h ak (ac+1) (some ⟨x,0,none⟩) o m):=V (λt x o m d g ao=>by
    rw[<-dt.q]at d;exact v.q.push (np:=Mk ad) (kv:=.slice (some wr) 1 1) (ag.q) Z (by simp[Mk,C8]) (by simp[Mk,C8]) (am.q) (bl.q) (gw.q) d g ao)
   have aq:w<=u.heap.size:=Z;have a9:U (a.length+1<=maxLen):=V (by unfold maxLen;omega);have ba:U ((a.length+1)*144<=140737488355328):=V Z;have dp:U (∀t,w.heap.size<=(u.alloc t).heap.size):=V (λt=>by simp;omega);have cj:U (∀t,(u.alloc t).heap.size=(u:Nat)+1):=V (λt=>Y);have K:U ((ac+1)<=f.size):=V Z;have L:U (a.length+1<=(ac+1)):=V Z;have M:U (f.size-(ac+1)<gk):=V (by have:=a1.q;omega);subst a0;go_wp2_with (at_builtin;refine wpList_append_lies _ I _ _ 194 I w 196 i0 (.agg #[O,(),O,O,O,(),(),O,Sx,.int .u8 0,O,O,false,false,false,false]) 16 144 underlying194 b4 b5 b6 b7 I J (.slice D a.length E) a.length (Ba a) I (bf.q _ _ (bl.q)) (((wr:Nat)+1) 0) 1 1 [.int .i64 1,.string ⟨#[]⟩,.int .i64 0,.int .i64 12,.int .i64 0,.string ad,.string ⟨#[]⟩,.int .i64 0,.slice (some wr) 1 1,.int .u8 0,.int .i64 0,.int .i64 0,.bool false,.bool false,.bool false,.bool false] I I bc.q bd.q J a9.q ba.q (dp.q _) ((wr:Nat)+1+1) ((cj.q _).trans (by rw[ed.q])) ?_)
   intro x o m s r F d5;have C:=V (bg.q _ x o m s r (by rcases F with j|j;exact .inl j;exact .inr (by rw[ed.q];exact j)))
   clear s r F d5;go_wp2;refine Handed.intro (f.size-(ac+1)) M.q (av _ _ _ ⟨(ac+1),a.length+1,o,some ⟨x,0,none⟩,K.q,rfl,⟨rfl,rfl,rfl,rfl,rfl⟩,L.q,V (by obtain⟨G,d,g⟩:=C.q;exact⟨G,d.symm,g⟩)⟩)
  case false=>
  have ca:U (¬(c=60/\0<F5 h i)):=V (λj=>by
   have:=b3.q;rw[Sl j.1,<-cl.q,Sl j.2]at this;cases this)
  clear b3;obtain⟨di,ev⟩:∃W:Bool,decide (c=10)=W:=⟨_,rfl⟩;have c2:=V ev;clear ev;go_upto_region 28 with fail
  go_cut [151] from 152 to 155 (λan H=>an=.bool di/\wr=H)
  case first=>
   have ap:((c.toNat:Int) == 10)=di:=by
    rw[<-c2.q,SC,Sqb,Sd,<-Qk];exact⟨λj=>by show c.toNat=10;omega,λj=>by have g:c.toNat=10:=j;omega⟩
   go_wp2;go_meet;exact⟨rfl,rfl⟩
  case rest=>
  obtain⟨rfl,rfl⟩:=hcut;cases di
  case true=>
   have af:U (c=10):=V (of_decide_eq_true c2.q);obtain⟨ay,cv⟩:=Qyy (Dz h i);have ih:ay<=a.length:=by rw[<-cv];exact v.q.sp
   have fl:=zd8 h i (by rw[a7.q];omega);rw[cv]at fl;obtain⟨ig,fi,fk⟩:=fl;have gx:=V fi;have gz:=V fk;have ie:=V cv;obtain⟨k,d6⟩:=Qyy (a.length-ay);have h9:=V d6;have c6:k<=a.length:=Z;obtain⟨Q,d4⟩:∃Q:Int,(if 2<=ay then 10 else 9)=Q:=⟨_,rfl⟩
   have c5:=V d4;have ag:U (Hu h (a.map Prod.fst) i ((a.map Prod.fst).take k++[Gi Q []]) (i+1)):=V ⟨c,aj.q,by rw[if_neg a8.q,if_neg au.q,if_neg bt.q,if_neg ca.q,if_pos af.q,cv,List.length_map,d6,d4];exact⟨rfl,rfl⟩⟩;have fo:U (Dz h (i+1)=0):=V (Mr h i c aj.q (by rw[af.q];decide));have iq:IntKind.i64.wrap ((i:Int)-1)=(i:Int)-1:=by rw[Sqe];omega
   have ir:IntKind.i64.wrap ((a.length:Int)-(ay:Int))=(k:Int):=by rw[Sqe];omega
   clear cv fi fk d6 d4 cg;go_upto_region 30 with fail
   refine wp_loop_ghost_k (λei ce H=>∃n:Nat,n<=ay/\ei=ay-n/\CB f (.slice D a.length E) (.int .i64 (i:Nat)) (.int .i64 (n:Nat)) ce/\wr=H) ay ⟨0,Qt _,rfl,⟨rfl,rfl,rfl,rfl,rfl,rfl⟩,rfl⟩ ?_;rintro ei ce H⟨n,ia,fc,e6,rfl⟩ hi hk f0 hu;obtain⟨je,rfl⟩:=e6.q;clear e6;by_cases cs:n<ay
   ·obtain⟨T,cr⟩:=Qyy (i-1-n);have d7:T<f.size:=Z;have ch:f[T]=32:=by
     have d:=gx.q n cs;rw[cr,<-ax.q,S.Bz f T d7]at d;exact Qy d
    have ap:((f[T].toNat:Int) == 32)=true:=(by rw[ch];rfl);have g5:IntKind.i64.wrap ((i:Int)-1-(n:Int))=(T:Int):=(by rw[Sqe];omega);have g6:(i:Int)-1-(n:Int)=(T:Int):=Z;have fd:(n:Int)<(i:Int):=Z;have gg:(0:Int)<=(T:Int):=Z;have gl:(T:Int)<(f.size:Int):=Z;have fx:U (ay-(n+1)<ei):=V Z;have fy:U (n+1<=ay):=V Z;clear cr ch fc;go_wp2;exact Handed.intro (ay-(n+1)) fx.q (f0 _ _ _ ⟨n+1,fy.q,rfl,⟨rfl,rfl,rfl,rfl,rfl,rfl⟩,rfl⟩)
   have gn:n=ay:=Z;subst gn;clear fc;by_cases fd:n<i
   ·obtain⟨T,cr⟩:=Qyy (i-1-n);have d7:T<f.size:=Z;have ch:f[T]≠32:=by
     intro j;have d:=gz.q fd;rw[cr,<-ax.q,S.Bz f T d7,j]at d;exact d rfl
    have ap:((f[T].toNat:Int) == 32)=false:=by
     rw[Qe];intro j;exact ch (Qk.1 (by show f[T].toNat=32;omega))
    have g5:IntKind.i64.wrap ((i:Int)-1-(n:Int))=(T:Int):=(by rw[Sqe];omega);have g6:(i:Int)-1-(n:Int)=(T:Int):=Z;have go:(n:Int)<(i:Int):=Z;have gg:(0:Int)<=(T:Int):=Z;have gl:(T:Int)<(f.size:Int):=Z;clear cr ch;go_upto_if 171 with fail
    go_cut [11] from 156 to 172 (λan H=>an=.int .i64 Q/\wr=H)
    case first=>
     by_cases g:2<=n
     ·have cy:(2:Int)<=(n:Int):=Z;have A:U (Q=10):=V (by rw[<-c5.q,if_pos g]);go_wp2;go_meet;exact⟨by rw[A.q],rfl⟩
     have cy:¬(2:Int)<=(n:Int):=Z;have A:U (Q=9):=V (by rw[<-c5.q,if_neg g]);go_wp2;go_meet;exact⟨by rw[A.q],rfl⟩
    case rest=>
    obtain⟨rfl,rfl⟩:=hcut;have bd:U (∀l∈([(1:Int),(),O,Q,O,(),(),O,Sx,.int .u8 0,O,O,false,false,false,false]:List Value),l.oneCell'=true):=V (by
     intro l a4;simp only[List.mem_cons,List.not_mem_nil,or_false]at a4;rcases a4 with rfl|rfl|rfl|rfl|rfl|rfl|rfl|rfl|rfl|rfl|rfl|rfl|rfl|rfl|rfl|rfl<;>rfl)
    have bc:U (∀P l,([(1:Int),(),O,Q,O,(),(),O,Sx,.int .u8 0,O,O,false,false,false,false]:List Value)[P]?=some l->(wr.alloc (.cells #[(1:Int),(),O,Q,O,(),(),O,Sx,.int .u8 0,O,O,false,false,false,false] 196)).cell? ((wr:Addr).add P)=some l):=V (λP l N=>World.news_of_block (Ak _ _) P l (by exact N));have bg:U (∀t l m,m.ownsRow ((wr:Nat)+1) 196 16 l (k+1) (Ba (a.take k)++[.int .i64 1,.string ⟨#[]⟩,.int .i64 0,.int .i64 Q,.int .i64 0,.string ⟨#[]⟩,.string ⟨#[]⟩,.int .i64 0,.slice none 0 0,.int .u8 0,.int .i64 0,.int .i64 0,.bool false,.bool false,.bool false,.bool false])->(wr.alloc t).grownBy m none->∃ak al o,l=.slice (some ⟨al,0,none⟩) (k+1) o/\ak.length=k+1/\WL w h ak (i+1) (some ⟨al,0,none⟩) o m):=V (λt l m d g=>v.q.line (np:=Gi Q []) ag.q c6 rfl rfl rfl fo.q (by have e:(wr.alloc t).heap.size=(wr:Nat)+1:=Y;rw[e];exact d) g);have cq:U ((Ba (a.take k)).length=k*16):=V (by rw[Pz,Ql,SI c6]);have d9:U (D=none->k=0/\k=0):=V (λe=>by
     subst e;rcases v.q.own.own.2 with ⟨_,g⟩|⟨_,_,_,d,_⟩
     ·exact⟨Z,Z⟩
     cases d)
    have ct:U (∀t b,D=some b->∀ar cc,(Ba (a.take k))[ar]?=some cc->(wr.alloc t).cell? (b.add ar)=some cc):=V (λt b e ar cd N=>by
     subst e;have dw:Below wr wr (wr.alloc t):=Sr.alloc (Qc _) t;rcases (v.q.own.after dw).row with j|⟨fs,hb,d,g,ao⟩
     ·rw[j]at N;simp[Ba]at N
     injection d with d
     subst d;refine Je.news (λeh W bb P ek eg=>ao eh W ?_ P ek eg) ar cd N;rw[List.getElem?_take]at bb;split at bb
     ·exact bb
     cases bb)
    have a9:U (k+1<=maxLen):=V (by unfold maxLen;omega);have ba:U ((k+1)*144<=140737488355328):=V Z;have K:U (i+1<=f.size):=V Z;have L:U (k+1<=i+1):=V Z;have M:U (f.size-(i+1)<gk):=V (by have:=a1.q;omega);have gh:(0:Int)<=(k:Int):=Z;have gi:(k:Int)<=(a.length:Int):=Z;have gu:a.length<=E:=by
     rcases v.q.own.own.2 with ⟨d,g⟩|⟨_,_,_,d,_,_,dn,_⟩
     ·omega
     injection d with _ _ ao;omega
    have gj:(k:Int)<=(E:Int):=Z;have cp:U (k<k+1):=V Z;cases D with
    |none=>
     go_wp2_with (at_builtin;refine wpList_append_grows _ I _ _ 194 I 196 i0 (.agg #[O,(),O,O,O,(),(),O,Sx,.int .u8 0,O,O,false,false,false,false]) 16 144 underlying194 b4 b5 b6 b7 I J none k k (Ba (a.take k)) I d9.q cq.q (ct.q _) wr 1 1 [.int .i64 1,.string ⟨#[]⟩,.int .i64 0,.int .i64 Q,.int .i64 0,.string ⟨#[]⟩,.string ⟨#[]⟩,.int .i64 0,.slice none 0 0,.int .u8 0,.int .i64 0,.int .i64 0,.bool false,.bool false,.bool false,.bool false] I I bc.q bd.q cp.q a9.q ba.q ?_)
     intro l m s r;obtain⟨G,al,o,rfl,d,g⟩:=bg.q _ l m s r;have C:=V (And.intro d g);clear s r d g;go_wp2;exact Handed.intro (f.size-(i+1)) M.q (av _ _ _ ⟨i+1,k+1,o,some ⟨al,0,none⟩,K.q,rfl,⟨rfl,rfl,rfl,rfl,rfl⟩,L.q,V ⟨G,C.q.1.symm,C.q.2⟩⟩)
    |some ad=>
     obtain⟨bn,b2⟩:∃bn,ad=⟨bn,0,none⟩:=by
      rcases v.q.own.own.2 with ⟨d,_⟩|⟨al,_,_,d,_⟩
      ·cases d
      injection d with d;injection d with d;exact⟨al,d⟩
     subst b2;go_wp2_with (at_builtin;refine wpList_append_grows _ I _ _ 194 I 196 i0 (.agg #[O,(),O,O,O,(),(),O,Sx,.int .u8 0,O,O,false,false,false,false]) 16 144 underlying194 b4 b5 b6 b7 I J (some ⟨bn,0,none⟩) k k (Ba (a.take k)) I (λj=>by cases j) cq.q (ct.q _) wr 1 1 [.int .i64 1,.string ⟨#[]⟩,.int .i64 0,.int .i64 Q,.int .i64 0,.string ⟨#[]⟩,.string ⟨#[]⟩,.int .i64 0,.slice none 0 0,.int .u8 0,.int .i64 0,.int .i64 0,.bool false,.bool false,.bool false,.bool false] I I bc.q bd.q cp.q a9.q ba.q ?_)
     intro l m s r;obtain⟨G,al,o,rfl,d,g⟩:=bg.q _ l m s r;have C:=V (And.intro d g);clear s r d g;go_wp2;exact Handed.intro (f.size-(i+1)) M.q (av _ _ _ ⟨i+1,k+1,o,some ⟨al,0,none⟩,K.q,rfl,⟨rfl,rfl,rfl,rfl,rfl⟩,L.q,V ⟨G,C.q.1.symm,C.q.2⟩⟩)
   have go:¬(n:Int)<(i:Int):=Z;go_upto_if 171 with fail
   go_cut [11] from 156 to 172 (λan H=>an=.int .i64 Q/\wr=H)
   case first=>
    by_cases g:2<=n
    ·have cy:(2:Int)<=(n:Int):=Z;have A:U (Q=10):=V (by rw[<-c5.q,if_pos g]);go_wp2;go_meet;exact⟨by rw[A.q],rfl⟩
    have cy:¬(2:Int)<=(n:Int):=Z;have A:U (Q=9):=V (by rw[<-c5.q,if_neg g]);go_wp2;go_meet;exact⟨by rw[A.q],rfl⟩
   case rest=>
   obtain⟨rfl,rfl⟩:=hcut;have bd:U (∀l∈([(1:Int),(),O,Q,O,(),(),O,Sx,.int .u8 0,O,O,false,false,false,false]:List Value),l.oneCell'=true):=V (by
    intro l a4;simp only[List.mem_cons,List.not_mem_nil,or_false]at a4;rcases a4 with rfl|rfl|rfl|rfl|rfl|rfl|rfl|rfl|rfl|rfl|rfl|rfl|rfl|rfl|rfl|rfl<;>rfl)
   have bc:U (∀P l,([(1:Int),(),O,Q,O,(),(),O,Sx,.int .u8 0,O,O,false,false,false,false]:List Value)[P]?=some l->(wr.alloc (.cells #[(1:Int),(),O,Q,O,(),(),O,Sx,.int .u8 0,O,O,false,false,false,false] 196)).cell? ((wr:Addr).add P)=some l):=V (λP l N=>World.news_of_block (Ak _ _) P l (by exact N));have bg:U (∀t l m,m.ownsRow ((wr:Nat)+1) 196 16 l (k+1) (Ba (a.take k)++[.int .i64 1,.string ⟨#[]⟩,.int .i64 0,.int .i64 Q,.int .i64 0,.string ⟨#[]⟩,.string ⟨#[]⟩,.int .i64 0,.slice none 0 0,.int .u8 0,.int .i64 0,.int .i64 0,.bool false,.bool false,.bool false,.bool false])->(wr.alloc t).grownBy m none->∃ak al o,l=.slice (some ⟨al,0,none⟩) (k+1) o/\ak.length=k+1/\WL w h ak (i+1) (some ⟨al,0,none⟩) o m):=V (λt l m d g=>v.q.line (np:=Gi Q []) ag.q c6 rfl rfl rfl fo.q (by have e:(wr.alloc t).heap.size=(wr:Nat)+1:=Y;rw[e];exact d) g);have cq:U ((Ba (a.take k)).length=k*16):=V (by rw[Pz,Ql,SI c6]);have d9:U (D=none->k=0/\k=0):=V (λe=>by
    subst e;rcases v.q.own.own.2 with ⟨_,g⟩|⟨_,_,_,d,_⟩
    ·exact⟨Z,Z⟩
    cases d)
   have ct:U (∀t b,D=some b->∀ar cc,(Ba (a.take k))[ar]?=some cc->(wr.alloc t).cell? (b.add ar)=some cc):=V (λt b e ar cd N=>by
    subst e;have dw:Below wr wr (wr.alloc t):=Sr.alloc (Qc _) t;rcases (v.q.own.after dw).row with j|⟨fs,hb,d,g,ao⟩
    ·rw[j]at N;simp[Ba]at N
    injection d with d
    subst d;refine Je.news (λeh W bb P ek eg=>ao eh W ?_ P ek eg) ar cd N;rw[List.getElem?_take]at bb;split at bb
    ·exact bb
    cases bb)
   have a9:U (k+1<=maxLen):=V (by unfold maxLen;omega);have ba:U ((k+1)*144<=140737488355328):=V Z;have K:U (i+1<=f.size):=V Z;have L:U (k+1<=i+1):=V Z;have M:U (f.size-(i+1)<gk):=V (by have:=a1.q;omega);have gh:(0:Int)<=(k:Int):=Z;have gi:(k:Int)<=(a.length:Int):=Z;have gu:a.length<=E:=by
    rcases v.q.own.own.2 with ⟨d,g⟩|⟨_,_,_,d,_,_,dn,_⟩
    ·omega
    injection d with _ _ ao;omega
   have gj:(k:Int)<=(E:Int):=Z;have cp:U (k<k+1):=V Z;cases D with
   |none=>
    go_wp2_with (at_builtin;refine wpList_append_grows _ I _ _ 194 I 196 i0 (.agg #[O,(),O,O,O,(),(),O,Sx,.int .u8 0,O,O,false,false,false,false]) 16 144 underlying194 b4 b5 b6 b7 I J none k k (Ba (a.take k)) I d9.q cq.q (ct.q _) wr 1 1 [.int .i64 1,.string ⟨#[]⟩,.int .i64 0,.int .i64 Q,.int .i64 0,.string ⟨#[]⟩,.string ⟨#[]⟩,.int .i64 0,.slice none 0 0,.int .u8 0,.int .i64 0,.int .i64 0,.bool false,.bool false,.bool false,.bool false] I I bc.q bd.q cp.q a9.q ba.q ?_)
    intro l m s r;obtain⟨G,al,o,rfl,d,g⟩:=bg.q _ l m s r;have C:=V (And.intro d g);clear s r d g;go_wp2;exact Handed.intro (f.size-(i+1)) M.q (av _ _ _ ⟨i+1,k+1,o,some ⟨al,0,none⟩,K.q,rfl,⟨rfl,rfl,rfl,rfl,rfl⟩,L.q,V ⟨G,C.q.1.symm,C.q.2⟩⟩)
   |some ad=>
    obtain⟨bn,b2⟩:∃bn,ad=⟨bn,0,none⟩:=by
     rcases v.q.own.own.2 with ⟨d,_⟩|⟨al,_,_,d,_⟩
     ·cases d
     injection d with d;injection d with d;exact⟨al,d⟩
    subst b2;go_wp2_with (at_builtin;refine wpList_append_grows _ I _ _ 194 I 196 i0 (.agg #[O,(),O,O,O,(),(),O,Sx,.int .u8 0,O,O,false,false,false,false]) 16 144 underlying194 b4 b5 b6 b7 I J (some ⟨bn,0,none⟩) k k (Ba (a.take k)) I (λj=>by cases j) cq.q (ct.q _) wr 1 1 [.int .i64 1,.string ⟨#[]⟩,.int .i64 0,.int .i64 Q,.int .i64 0,.string ⟨#[]⟩,.string ⟨#[]⟩,.int .i64 0,.slice none 0 0,.int .u8 0,.int .i64 0,.int .i64 0,.bool false,.bool false,.bool false,.bool false] I I bc.q bd.q cp.q a9.q ba.q ?_)
    intro l m s r;obtain⟨G,al,o,rfl,d,g⟩:=bg.q _ l m s r;have C:=V (And.intro d g);clear s r d g;go_wp2;exact Handed.intro (f.size-(i+1)) M.q (av _ _ _ ⟨i+1,k+1,o,some ⟨al,0,none⟩,K.q,rfl,⟨rfl,rfl,rfl,rfl,rfl⟩,L.q,V ⟨G,C.q.1.symm,C.q.2⟩⟩)
  case false=>
  have cw:U (¬c=10):=V (of_decide_eq_false c2.q);clear c2;obtain⟨bw,ew⟩:∃bw:Bool,decide (c=42\/c=95)=bw:=⟨_,rfl⟩;have cm:=V ew;clear ew;go_upto_region 37 with fail
  go_cut [190] from 191 to 200 (λan H=>an=.bool bw/\wr=H)
  case first=>
   by_cases b1:c=42
   ·have ap:((c.toNat:Int) == 42)=true:=(by rw[b1];rfl);have A:U (bw=true):=V (by rw[<-cm.q,Sl (.inl b1)]);clear b1;go_wp2;go_meet;exact⟨by rw[A.q],rfl⟩
   have ap:((c.toNat:Int) == 42)=false:=by
    rw[Qe];intro j;exact b1 (Qk.1 (by show c.toNat=42;omega))
   have hl:((c.toNat:Int) == 95)=bw:=by
    rw[<-cm.q,SC,Sqb,Sd];exact⟨λj=>.inr (Qk.1 (by show c.toNat=95;omega)),λj=>by rcases j with j|j;exact absurd j b1;rw[j];rfl⟩
   clear b1;go_wp2;go_meet;exact⟨rfl,rfl⟩
  case rest=>
  obtain⟨rfl,rfl⟩:=hcut;cases bw
  case true=>
   have af:U (c=42\/c=95):=V (of_decide_eq_true cm.q);obtain⟨q,b9⟩:=Qyy (S.same (h.drop i));obtain⟨ro,fg⟩:=Qyy (S.I9 h i q);obtain⟨rc,fe⟩:=Qyy (S.I7 h i q);have g0:=Nh f i b8;rw[ax.q,b9]at g0;have fh:U (Dg (Kh h i) (.slice none 0 0)=[.int .i64 2,.string ⟨#[]⟩,.int .i64 0,.int .i64 0,.int .i64 0,.string ⟨#[]⟩,.string ⟨#[]⟩,.int .i64 0,.slice none 0 0,.int .u8 (c.toNat:Int),.int .i64 (q:Nat),.int .i64 (q:Nat),.bool ro,.bool rc,.bool false,.bool false]):=V (by
    unfold Kh;rw[b9,fg,fe,aj.q];rfl)
   have f4:U (Calls prog 138 #[f,i] wr λe y=>e=.returned (.agg #[(2:Int),(),O,O,O,(),(),O,Sx,.int .u8 (c.toNat:Int),q,q,ro,rc,false,false])/\Below wr wr y):=V ((zeb f i wr cu b8 (by rw[d0];exact af.q)).mono (λe y ⟨d,g⟩=>⟨by rw[d,ax.q];unfold N9;rw[fh.q],g⟩));have gf:U (h[i+q-1]?=some c):=V (by
    have d:h.drop i=c::h.drop (i+1):=by
     obtain⟨g,ao⟩:=Qb.1 aj.q;rw[Qm g,ao]
    have dn:S.cnt c (h.drop i)=q:=(by rw[<-b9,d];rfl);have ci:=Wh c (h.drop i) (q-1) Z;rw[Qn]at ci;rw[<-ci];congr 1;omega)
   have ag:U (Hu h (a.map Prod.fst) i (a.map Prod.fst++[Kh h i]) (i+q)):=V ⟨c,aj.q,by rw[if_neg a8.q,if_neg au.q,if_neg bt.q,if_neg ca.q,if_neg cw.q,if_pos af.q];exact⟨rfl,by rw[b9]⟩⟩;have am:U (Dz h (i+q)<=a.length+1):=V (by
    have:=Mr h (i+q-1) c gf.q (by rcases af.q with j|j<;>(rw[j];decide))
    rw[Nat.sub_add_cancel Z]at this;omega)
   have fm:=V b9;clear b9 fg fe;go_wp2_with (fail);apply f4.m;rintro e z⟨rfl,ai⟩;obtain⟨u,a0⟩:=Qzz (z.alloc (.cells #[(2:Int),(),O,O,O,(),(),O,Sx,.int .u8 (c.toNat:Int),q,q,ro,rc,false,false] 196));have bk:Below z z u:=by rw[a0];exact Sr.alloc (Qc _) _
   have ab:u.heap[z.heap.size]?=some (.cells #[(2:Int),(),O,O,O,(),(),O,Sx,.int .u8 (c.toNat:Int),q,q,ro,rc,false,false] 196 (0,0)):=by rw[a0];exact Ak _ _
   have c7:u.heap.size=(z:Nat)+1:=by rw[a0];simp
   have es:U (Below wr wr u):=V (ai.trans (bk.mono ai.size));have db:wr<=z.heap.size:=ai.size;have g4:z<u.heap.size:=Z;have iy:=X ab 0 _ rfl;have iz:=X ab 1 _ rfl;have G:=X ab 2 _ rfl;have i7:=X ab 3 _ rfl;have i8:=X ab 4 _ rfl;have i9:=X ab 5 _ rfl;have ja:=X ab 6 _ rfl;have jb:=X ab 7 _ rfl;have jc:=X ab 8 _ rfl;have jd:=X ab 9 _ rfl;have i1:=X ab 10 _ rfl;have i2:=X ab 11 _ rfl;have i3:=X ab 12 _ rfl;have i4:=X ab 13 _ rfl;have i5:=X ab 14 _ rfl;have i6:=X ab 15 _ rfl;have f6:=V a0;have g7:=V ab;clear a0 bk ab c7 ai;go_upto_region 39 with fail
   rw[<-f6.q];have bd:U (∀l∈([(2:Int),(),O,O,O,(),(),O,Sx,.int .u8 (c.toNat:Int),q,q,ro,rc,false,false]:List Value),l.oneCell'=true):=V (by
    intro l a4;simp only[List.mem_cons,List.not_mem_nil,or_false]at a4;rcases a4 with rfl|rfl|rfl|rfl|rfl|rfl|rfl|rfl|rfl|rfl|rfl|rfl|rfl|rfl|rfl|rfl<;>rfl)
   have bc:U (∀P l,([(2:Int),(),O,O,O,(),(),O,Sx,.int .u8 (c.toNat:Int),q,q,ro,rc,false,false]:List Value)[P]?=some l->(u.alloc (.cells #[(2:Int),(),O,O,O,(),(),O,Sx,.int .u8 (c.toNat:Int),q,q,ro,rc,false,false] 196)).cell? ((u:Addr).add P)=some l):=V (λP l N=>World.news_of_block (Ak _ _) P l (by exact N));have bg:U (∀t x o m,m.ownsRow w 196 16 (.slice (some ⟨x,0,none⟩) (a.length+1) o) (a.length+1) (Ba a++[.int .i64 2,.string ⟨#[]⟩,.int .i64 0,.int .i64 0,.int .i64 0,.string ⟨#[]⟩,.string ⟨#[]⟩,.int .i64 0,.slice none 0 0,.int .u8 (c.toNat:Int),.int .i64 (q:Nat),.int .i64 (q:Nat),.bool ro,.bool rc,.bool false,.bool false])->(u.alloc t).grownBy m (Value.slice D a.length E).ownBlock->((Value.slice D a.length E).ownBlock=some x\/x=(u:Nat)+1)->∃ak,ak.length=a.length+1/\WL w h ak (i+q) (some ⟨x,0,none⟩) o m):=V (λt x o m d g ao=>by
    rw[<-fh.q]at d;exact v.q.push (np:=Kh h i) (kv:=.slice none 0 0) (ag.q) Z (by show (0:Nat)+S.same (h.drop i)<=_;rw[fm.q];omega) (by show S.same (h.drop i)<=_;rw[fm.q];omega) (am.q) (es.q) (.nil) d g ao)
   have aq:w<=u.heap.size:=Z;have a9:U (a.length+1<=maxLen):=V (by unfold maxLen;omega);have ba:U ((a.length+1)*144<=140737488355328):=V Z;have dp:U (∀t,w.heap.size<=(u.alloc t).heap.size):=V (λt=>by simp;omega);have cj:U (∀t,(u.alloc t).heap.size=(u:Nat)+1):=V (λt=>Y);have K:U ((i+q)<=f.size):=V Z;have L:U (a.length+1<=(i+q)):=V Z;have M:U (f.size-(i+q)<gk):=V (by have:=a1.q;omega);go_wp2_with (at_builtin;refine wpList_append_lies _ I _ _ 194 I w 196 i0 (.agg #[O,(),O,O,O,(),(),O,Sx,.int .u8 0,O,O,false,false,false,false]) 16 144 underlying194 b4 b5 b6 b7 I J (.slice D a.length E) a.length (Ba a) I (bf.q u _ (es.q)) u 1 1 [.int .i64 2,.string ⟨#[]⟩,.int .i64 0,.int .i64 0,.int .i64 0,.string ⟨#[]⟩,.string ⟨#[]⟩,.int .i64 0,.slice none 0 0,.int .u8 (c.toNat:Int),.int .i64 (q:Nat),.int .i64 (q:Nat),.bool ro,.bool rc,.bool false,.bool false] I I bc.q bd.q J a9.q ba.q (dp.q _) ((u:Nat)+1) (cj.q _) ?_)
   intro x o m s r F d5;have C:=V (bg.q _ x o m s r F);have hw:m.cell? (z 10)=some (.int .i64 (q:Nat)):=by
    have g8:m.heap[z.heap.size]?=_:=(r.block z (by have:=cj.q (.cells #[(2:Int),(),O,O,O,(),(),O,Sx,.int .u8 (c.toNat:Int),q,q,ro,rc,false,false] 196);omega) (λe=>by have:=(v.q.own.own.lt _ e.symm).2;omega)).trans ((((Below.refl u u).alloc (Qc _) _).block z g4).trans g7.q);exact X g8 10 _ rfl
   have ii:z.heap.size<m.heap.size:=by have:=r.size;have:=cj.q (.cells #[(2:Int),(),O,O,O,(),(),O,Sx,.int .u8 (c.toNat:Int),q,q,ro,rc,false,false] 196);omega
   have io:IntKind.i64.wrap ((i:Int)+(q:Int))=(i:Int)+(q:Int):=by rw[Sqe];omega
   clear s r F d5;go_wp2;refine Handed.intro (f.size-(i+q)) M.q (av _ _ _ ⟨(i+q),a.length+1,o,some ⟨x,0,none⟩,K.q,rfl,⟨rfl,rfl,rfl,rfl,rfl⟩,L.q,V (by obtain⟨G,d,g⟩:=C.q;exact⟨G,d.symm,g⟩)⟩)
  case false=>
  have df:U (¬(c=42\/c=95)):=V (of_decide_eq_false cm.q);clear cm;obtain⟨dj,ex⟩:∃W:Bool,decide (c=91)=W:=⟨_,rfl⟩;have c3:=V ex;clear ex;go_upto_region 41 with fail
  go_cut [212] from 213 to 216 (λan H=>an=.bool dj/\wr=H)
  case first=>
   have ap:((c.toNat:Int) == 91)=dj:=by
    rw[<-c3.q,SC,Sqb,Sd,<-Qk];exact⟨λj=>by show c.toNat=91;omega,λj=>by have g:c.toNat=91:=j;omega⟩
   go_wp2;go_meet;exact⟨rfl,rfl⟩
  case rest=>
  obtain⟨rfl,rfl⟩:=hcut;cases dj
  case true=>
   have af:U (c=91):=V (of_decide_eq_true c3.q);have ag:U (Hu h (a.map Prod.fst) i (a.map Prod.fst++[Ht [91] false]) (i+1)):=V ⟨c,aj.q,by rw[if_neg a8.q,if_neg au.q,if_neg bt.q,if_neg ca.q,if_neg cw.q,if_neg df.q,if_pos af.q];exact⟨rfl,rfl⟩⟩;have am:=V (c8.q i c aj.q (by rw[af.q];decide));have aq:w<=wr.heap.size:=Z;have K:U ((i+1)<=f.size):=V Z;have L:U (a.length+1<=(i+1)):=V Z;have M:U (f.size-(i+1)<gk):=V (by have:=a1.q;omega);go_wp2_with (at_builtin;refine Aa wr (Ht [91] false) none 0 0 I _ _ I w (.slice D a.length E) a.length (Ba a) I (bf.q wr _ Sr) I Z aq ?_)
   intro x o m s r F;have C:=V (v.q.push (np:=Ht [91] false) (kv:=.slice none 0 0) (ag.q) Z (by simp[Ht]) (by simp[Ht]) (am.q) Sr (.nil) s r F);clear s r F;go_wp2;refine Handed.intro (f.size-(i+1)) M.q (av _ _ _ ⟨(i+1),a.length+1,o,some ⟨x,0,none⟩,K.q,rfl,⟨rfl,rfl,rfl,rfl,rfl⟩,L.q,V (by obtain⟨G,d,g⟩:=C.q;exact⟨G,d.symm,g⟩)⟩)
  case false=>
  have ej:U (¬c=91):=V (of_decide_eq_false c3.q);clear c3;obtain⟨bx,ey⟩:∃bx:Bool,(decide (c=33)&&decide (h[i+1]?=some 91))=bx:=⟨_,rfl⟩;have cn:=V ey;clear ey;have em:(R.toList == [91])=decide (h[i+1]?=some 91):=by
   rw[gp.q];cases j:h[i+1]? with
   |none=>rw[Qw (List.getElem?_eq_none_iff.1 j)];rfl
   |some aa=>
    obtain⟨d,g⟩:=Qb.1 j;rw[Qm d,g,Qz,List.take_zero];by_cases e:aa=91
    ·subst e;rfl
    rw[Si (by simpa using e)];simp[e]
  obtain⟨dl,dy⟩:=Qyy (decide (h[i+1]?=some 91));rw[dy]at em;have f9:=V dy;clear dy cg;go_upto_region 44 with fail
  go_cut [223] from 224 to 231 (λan H=>an=.bool bx/\wr=H)
  case first=>
   by_cases b0:c=33
   ·have ap:((c.toNat:Int) == 33)=true:=(by rw[b0];rfl);have A:U (bx=dl):=V (by rw[<-cn.q,Sl b0,Bool.true_and,f9.q]);clear b0;go_wp2;go_meet;exact⟨by rw[A.q],rfl⟩
   have ap:((c.toNat:Int) == 33)=false:=by
    rw[Qe];intro j;exact b0 (Qk.1 (by show c.toNat=33;omega))
   have A:U (bx=false):=V (by rw[<-cn.q,Si b0];rfl);clear b0;go_wp2;go_meet;exact⟨by rw[A.q],rfl⟩
  case rest=>
  obtain⟨rfl,rfl⟩:=hcut;clear em;cases bx
  case true=>
   have a2:U (c=33/\h[i+1]?=some 91):=V (by
    have:=cn.q;rw[SE,Sd,Sd]at this;exact this)
   have fb:i+2<=f.size:=by
    have:=(Qb.1 a2.q.2).1;rw[a7.q]at this;omega
   have ag:U (Hu h (a.map Prod.fst) i (a.map Prod.fst++[Ht [33,91] true]) (i+2)):=V ⟨c,aj.q,by rw[if_neg a8.q,if_neg au.q,if_neg bt.q,if_neg ca.q,if_neg cw.q,if_neg df.q,if_neg ej.q,if_pos a2.q];exact⟨rfl,rfl⟩⟩;have am:=V (c8.q (i+1) 91 a2.q.2 J);have aq:w<=wr.heap.size:=Z;have K:U ((i+2)<=f.size):=V Z;have L:U (a.length+1<=(i+2)):=V Z;have M:U (f.size-(i+2)<gk):=V (by have:=a1.q;omega);go_wp2_with (at_builtin;refine Aa wr (Ht [33,91] true) none 0 0 I _ _ I w (.slice D a.length E) a.length (Ba a) I (bf.q wr _ Sr) I Z aq ?_)
   intro x o m s r F;have C:=V (v.q.push (np:=Ht [33,91] true) (kv:=.slice none 0 0) (ag.q) Z (by simp[Ht]) (by simp[Ht]) (am.q) Sr (.nil) s r F);clear s r F;go_wp2;refine Handed.intro (f.size-(i+2)) M.q (av _ _ _ ⟨(i+2),a.length+1,o,some ⟨x,0,none⟩,K.q,rfl,⟨rfl,rfl,rfl,rfl,rfl⟩,L.q,V (by obtain⟨G,d,g⟩:=C.q;exact⟨G,d.symm,g⟩)⟩)
  case false=>
  have fr:U (¬(c=33/\h[i+1]?=some 91)):=V (λj=>by
   have:=cn.q;rw[Sl j.1,Sl j.2]at this;cases this)
  clear cn;obtain⟨dk,ez⟩:∃W:Bool,decide (c=93)=W:=⟨_,rfl⟩;have c4:=V ez;clear ez;go_upto_region 47 with fail
  go_cut [238] from 239 to 242 (λan H=>an=.bool dk/\wr=H)
  case first=>
   have ap:((c.toNat:Int) == 93)=dk:=by
    rw[<-c4.q,SC,Sqb,Sd,<-Qk];exact⟨λj=>by show c.toNat=93;omega,λj=>by have g:c.toNat=93:=j;omega⟩
   go_wp2;go_meet;exact⟨rfl,rfl⟩
  case rest=>
  obtain⟨rfl,rfl⟩:=hcut;cases dk
  case true=>
   have af:U (c=93):=V (of_decide_eq_true c4.q);have e2:U (h[i]?=some 93):=V (by rw[aj.q,af.q]);have fw:U (Calls prog 139 #[.slice D a.length E,f,i] wr λe y=>∃(au bz a5:Nat) (bu:So),e=.returned (.tuple #[.slice bu au bz,a5])/\U (a5<=f.size/\f.size-a5<gk/\au<=a5/\∃ak,au=ak.length/\WL w h ak a5 bu bz y)):=V (by
    have:=za8 w D E a f i wr v.q.own fq cu b8 (by have:=v.q.tot;omega) v.q.nums;rw[ax.q]at this;refine this.mono ?_;rintro e m⟨ak,bu,bz,a5,rfl,j⟩;obtain⟨d,g,ao⟩:=j.q;have gs:=g.place e2.q;have c9:Hu h (a.map Prod.fst) i (ak.map Prod.fst) a5:=⟨c,aj.q,by rw[if_neg a8.q,if_neg au.q,if_neg bt.q,if_neg ca.q,if_neg cw.q,if_neg df.q,if_neg ej.q,if_neg fr.q,if_pos af.q];exact g⟩;have a0:=v.q.closed e2.q c9 g d ao;exact⟨ak.length,bz,a5,bu,rfl,V ⟨by rw[<-a7.q];exact gs.2.1,by have:=a1.q;omega,a0.len,ak,rfl,a0⟩⟩)
   go_wp2_with (fail);apply fw.m;rintro e m⟨au,bz,a5,bu,rfl,cz⟩;go_wp2;exact Handed.intro (f.size-a5) cz.q.2.1 (av _ _ _ ⟨a5,au,bz,bu,cz.q.1,rfl,⟨rfl,rfl,rfl,rfl,rfl⟩,cz.q.2.2.1,V cz.q.2.2.2⟩)
  case false=>
  have ha:U (¬c=93):=V (of_decide_eq_false c4.q);clear c4;have e3:U ((f.extract i (i+1)).data.toList=(h.drop i).take 1):=V (by rw[Kr,ax.q,show i+1-i=1 by omega]);obtain⟨ah,ee⟩:=Qyy (f.extract i (i+1));rw[ee]at e3;have ck:U (Calls prog 134 #[ah] wr λe y=>e=.returned (.agg #[O,ah,O,O,O,(),(),O,Sx,.int .u8 0,O,O,false,false,false,false])/\Below wr wr y):=V ((Wy ah wr).mono (λe y ⟨d,g⟩=>⟨by rw[d];unfold N9 Dg Cn;simp only[S.El];rfl,g⟩));have ag:U (Hu h (a.map Prod.fst) i (a.map Prod.fst++[Cn ((h.drop i).take 1)]) (i+1)):=V ⟨c,aj.q,by rw[if_neg a8.q,if_neg au.q,if_neg bt.q,if_neg ca.q,if_neg cw.q,if_neg df.q,if_neg ej.q,if_neg fr.q,if_neg ha.q];exact⟨rfl,rfl⟩⟩;have am:U (Dz h (i+1)<=a.length+1):=V (by
   rw[FC h i c aj.q];have:=v.q.sp;split<;>omega)
  have dr:(i:Int)+1<=(f.size:Int):=Z;have ds:(i:Int)<=(i:Int)+1:=Z;have g3:((i:Int)+1).toNat=i+1:=Z;go_wp2_with fail
  apply ck.m;rintro e z⟨rfl,ai⟩;have aw:=V ai;have db:wr<=z.heap.size:=ai.size;clear ai;have aq:w<=z.heap.size:=Z;have K:U ((i+1)<=f.size):=V Z;have L:U (a.length+1<=(i+1)):=V Z;have M:U (f.size-(i+1)<gk):=V (by have:=a1.q;omega);go_wp2_with (at_builtin;refine Aa z (Cn ah) none 0 0 I _ _ I w (.slice D a.length E) a.length (Ba a) I (bf.q z _ (aw.q)) I Z aq ?_)
  intro x o m s r F;rw[e3.q]at s;have C:=V (v.q.push (np:=Cn ((h.drop i).take 1)) (kv:=.slice none 0 0) (ag.q) Z (by simp[Cn];omega) (by simp[Cn]) (am.q) (aw.q) (.nil) s r F);clear s r F;go_wp2;refine Handed.intro (f.size-(i+1)) M.q (av _ _ _ ⟨(i+1),a.length+1,o,some ⟨x,0,none⟩,K.q,rfl,⟨rfl,rfl,rfl,rfl,rfl⟩,L.q,V (by obtain⟨G,d,g⟩:=C.q;exact⟨G,d.symm,g⟩)⟩)
 have ge:i=f.size:=Z;have fz:¬(i:Int)<(f.size:Int):=Z;have ga:a.length<=E:=by
  rcases v.q.own.own.2 with ⟨d,g⟩|⟨_,_,_,d,_,_,dn,_⟩
  ·omega
  injection d with _ _ ao;omega
 have f3:U (Calls prog 140 #[.slice D a.length E] wr λe m=>∃l ns,e=.returned l/\Bv m (λW=>w.heap.size<=W/\W<m.heap.size) l ns/\U (Dn h [] 0 ns)/\Below w w m):=V (by
  refine(XG (λW=>w<=W) D E a wr ga v.q.own.row (λar hc eb=>(v.q.own.Ab ar hc eb).move (λ_ dc=>⟨dc.1,dc.2.1⟩) (λ_ _=>rfl)) (by have:=v.q.tot;omega) v.q.nums (λW ix=>Z)).mono ?_;rintro e m⟨l,ns,rfl,bs,eb,bp⟩;exact⟨l,ns,rfl,bs,V (v.q.toL ns (.done _ _ _ (by rw[a7.q];omega) eb.q)),v.q.below.trans (bp.mono fq)⟩)
 clear ge;go_wp2_with fail
 apply f3.m;rintro e m⟨l,ns,rfl,bs,g2,bp⟩;have gv:=V bs;have f8:=V bp;clear bs bp;go_wp2;go_ret;exact⟨l,ns,rfl,gv.q,g2,f8.q⟩
