import Derived.Test.YtlojgpkajkedeaaGreatDoorNTD
import Derived.Deep.LoopGhost
import Derived.ArgAppend
set_option maxHeartbeats 16000000
set_option maxRecDepth 100000
namespace Go.Proofs.YtlojgpkajkedeaaGreatDoor
open Go.RowKit Go.Proofs.Tryz
theorem zmk (c:UInt8)(l:List UInt8)(j:Nat)(h:j<S.cnt c l):l[j]?=some c:=by
 induction l generalizing j with
 | nil=>simp[S.cnt] at h
 | cons x r ih=>
  simp only[S.cnt] at h;split at h
  ·rename_i hx;cases j with
   | zero=>rw[hx];rfl
   | succ j=>rw[List.getElem?_cons_succ];exact ih j (by omega)
  ·omega
theorem zpy (l:List UInt8)(p:Nat)(h:0<ang l p):p+2<=ang l p/\ang l p<=l.length/\l[ang l p-1]?=some 62:=by
 unfold ang at h ⊢;by_cases ho:S.zdb (l.drop p)=true
 ·rw[if_pos ho] at h ⊢;unfold S.zdb at ho;rw[Bool.and_eq_true,has1,Qbb,Qn,Nat.add_zero] at ho;have h1:=(Qb.1 ho.2).1;have h2:1<=S.zdf (l.drop p):=by unfold S.zdf S.colon;omega
  exact⟨by omega,by omega,by rw[Nat.add_sub_cancel];exact ho.2⟩
 ·rw[if_neg ho] at h;omega
theorem zrl (z f:Nat)(l:List UInt8)(k K:Nat)(h:S.zbv z f l k=some K):k<=K/\S.cnt 96 (l.drop (K-k))=z:=by
 induction f generalizing l k with
 | zero=>simp[S.zbv] at h
 | succ f ih=>
  cases l with
  | nil=>simp[S.zbv] at h
  | cons b r=>
   simp only[S.zbv] at h;split at h
   ·split at h
    ·rename_i hc;cases h;exact⟨Qc _,by rw[Nat.sub_self];exact hc⟩
    ·obtain⟨h1,h2⟩:=ih _ _ h;refine⟨by omega,?_⟩;rw[Qbb] at h2;rw[<-h2];congr 2;omega
   ·obtain⟨h1,h2⟩:=ih _ _ h;refine⟨by omega,?_⟩;rw[show K-k=(K-(k+1))+1 by omega,List.drop_succ_cons];exact h2
theorem zpo (l:List UInt8)(p:Nat)(h1:1<=S.cnt 96 (l.drop p))(h:0<grv l p):p+S.cnt 96 (l.drop p)+S.cnt 96 (l.drop p)<=grv l p/\grv l p<=l.length/\l[grv l p-1]?=some 96:=by
 unfold grv at h ⊢;cases hs:S.ze9 (l.drop p) (S.cnt 96 (l.drop p)) with
 | none=>rw[hs] at h;simp[grvV] at h
 | some K=>
  obtain⟨n,hn⟩:=Qyy (S.cnt 96 (l.drop p));rw[hn] at hs h1 ⊢;have hle:n<=(l.drop p).length:=by rw[<-hn];exact S.zd3 96 _
  have hb:=S.zh1 _ _ _ hle hs;rw[Qf] at hb hle;unfold S.ze9 at hs;obtain⟨h2,h3⟩:=zrl _ _ _ _ _ hs;rw[Qbb,Qbb] at h3;show p+n+n<=p+K+n/\p+K+n<=l.length/\l[p+K+n-1]?=some 96;refine⟨by omega,by omega,?_⟩;have:=zmk 96 _ (n-1) (by rw[h3];omega);rw[Qn] at this;rw[<-this];congr 1;omega
theorem z04 (l:List UInt8)(p:Nat)(h:0<tgt l p):l[tgt l p-1]?=some 41:=by
 unfold tgt at h ⊢;by_cases ho:S.zd5 (l.drop p)=true
 ·rw[if_pos ho] at h ⊢;unfold S.zd5 at ho;rw[Bool.and_eq_true,has1,has1] at ho;have h2:=ho.2;rw[Qbb,Qbb,Qn,Nat.add_zero] at h2;rw[<-h2];congr 1;omega
 ·rw[if_neg ho] at h;omega
theorem zdc.place {l l':List RPt}{t:List UInt8}{p p':Nat}(h:zdc l t p l' p')(hp:t[p]?=some 93):p<p'/\p'<=t.length/\spB t p'=0:=by
 have hpl:=(Qb.1 hp).1;have h0:=ze5 t p 93 hp (by decide);rcases h with ⟨_,_,h⟩|⟨_,_,_,_,_,_,h⟩|⟨_,_,_,_,_,_,hg,_,_,h⟩
 ·rw[h];exact⟨by omega,by omega,h0⟩
 ·rw[h];exact⟨by omega,by omega,h0⟩
 ·have hb:=zr4 t (p+1) hg;have hl:=z04 t (p+1) hg;rw[h];refine⟨by omega,hb.2,?_⟩;have:=ze5 t (tgt t (p+1)-1) 41 hl (by decide);rwa [Nat.sub_add_cancel (by omega)] at this
theorem zdc.nums {l l':List RPt}{t:List UInt8}{p p':Nat}(h:zdc l t p l' p')(N:Nat)(hl:∀x∈l,x.n<=N):∀x∈l',x.n<=N:=by
 intro x hx;rcases h with ⟨_,h,_⟩|⟨k,q,_,hq,_,h,_⟩|⟨k,q,ns,_,hq,_,_,_,h,_⟩
 ·rw[h,Qbh,Qbi] at hx;rcases hx with hx|hx
  ·exact hl x hx
  ·rw[hx];exact Qt _
 ·rw[h,Qbh,Qbi] at hx;rcases hx with hx|hx
  ·rcases List.mem_or_eq_of_mem_set hx with hx|hx
   ·exact hl x hx
   ·rw[hx];exact hl q (List.mem_of_getElem? hq)
  ·rw[hx];exact Qt _
 ·rw[h,Qbh,Qbi,List.mem_map] at hx;rcases hx with ⟨y,hy,rfl⟩|hx
  ·have:=hl y (List.mem_of_mem_take hy);unfold zbx;split
   ·exact this
   ·exact this
  ·rw[hx];exact Qt _
theorem WL.closed {w wr w2:World}{t:List UInt8}{qs qs':List (RPt × Value)}{i i':Nat}{a a2:Option Addr}{cap cap2:Nat}(h:WL w t qs i a cap wr)(hc:t[i]?=some 93)(hs:zgu t (qs.map Prod.fst) i (qs'.map Prod.fst) i')(hcl:zdc (qs.map Prod.fst) t i (qs'.map Prod.fst) i')(ho:POwn (λx=>w.heap.size<=x) w.heap.size qs' (.slice a2 qs'.length cap2) w2)(hb:Below w.heap.size wr w2):WL w t qs' i' a2 cap2 w2:=by
 have hsm:=hcl.small;have hpl:=hcl.place hc;rw[List.length_map,List.length_map] at hsm;rw[<-zqb,<-zqb] at hsm;have h1:=h.len;have h2:=h.tot;refine⟨ho,by omega,by omega,λj p hj=>?_,by omega,λns hns=>h.toL ns (.step _ _ _ _ _ hs hns),h.below.trans hb⟩;refine hcl.nums 1000000 (λx hx=>?_) p.1 (List.mem_map_of_mem (List.mem_of_getElem? hj));rw[List.mem_map] at hx;obtain⟨y,hy,rfl⟩:=hx;obtain⟨k,hk⟩:=List.getElem?_of_mem hy;exact h.nums k y hk
structure wFrm (s:ByteArray)(lv iv:Value)(a:Act):Prop where
 size:a.tmps.size=252
 zero:a.tmps[0]?=some (.string s)
 three:a.tmps[3]?=some lv
 four:a.tmps[4]?=some iv
 defers:a.defers=[]
theorem zv4 (l:List Value)(h:l.length=252):∃u:Nat->Value,l=[u 0,u 1,u 2,u 3,u 4,u 5,u 6,u 7,u 8,u 9,u 10,u 11,u 12,u 13,u 14,u 15,u 16,u 17,u 18,u 19,u 20,u 21,u 22,u 23,u 24,u 25,u 26,u 27,u 28,u 29,u 30,u 31,u 32,u 33,u 34,u 35,u 36,u 37,u 38,u 39,u 40,u 41,u 42,u 43,u 44,u 45,u 46,u 47,u 48,u 49,u 50,u 51,u 52,u 53,u 54,u 55,u 56,u 57,u 58,u 59,u 60,u 61,u 62,u 63,u 64,u 65,u 66,u 67,u 68,u 69,u 70,u 71,u 72,u 73,u 74,u 75,u 76,u 77,u 78,u 79,u 80,u 81,u 82,u 83,u 84,u 85,u 86,u 87,u 88,u 89,u 90,u 91,u 92,u 93,u 94,u 95,u 96,u 97,u 98,u 99,u 100,u 101,u 102,u 103,u 104,u 105,u 106,u 107,u 108,u 109,u 110,u 111,u 112,u 113,u 114,u 115,u 116,u 117,u 118,u 119,u 120,u 121,u 122,u 123,u 124,u 125,u 126,u 127,u 128,u 129,u 130,u 131,u 132,u 133,u 134,u 135,u 136,u 137,u 138,u 139,u 140,u 141,u 142,u 143,u 144,u 145,u 146,u 147,u 148,u 149,u 150,u 151,u 152,u 153,u 154,u 155,u 156,u 157,u 158,u 159,u 160,u 161,u 162,u 163,u 164,u 165,u 166,u 167,u 168,u 169,u 170,u 171,u 172,u 173,u 174,u 175,u 176,u 177,u 178,u 179,u 180,u 181,u 182,u 183,u 184,u 185,u 186,u 187,u 188,u 189,u 190,u 191,u 192,u 193,u 194,u 195,u 196,u 197,u 198,u 199,u 200,u 201,u 202,u 203,u 204,u 205,u 206,u 207,u 208,u 209,u 210,u 211,u 212,u 213,u 214,u 215,u 216,u 217,u 218,u 219,u 220,u 221,u 222,u 223,u 224,u 225,u 226,u 227,u 228,u 229,u 230,u 231,u 232,u 233,u 234,u 235,u 236,u 237,u 238,u 239,u 240,u 241,u 242,u 243,u 244,u 245,u 246,u 247,u 248,u 249,u 250,u 251]/\∀i,i<252->l[i]?=some (u i):=by
 refine⟨λi=>l[i]?.getD undef,?_,?_⟩
 ·show l=(List.range 252).map (λi=>l[i]?.getD undef);apply List.ext_getElem?
  intro i;rw[List.getElem?_map];by_cases hi:i<252
  ·rw[List.getElem?_range hi,Qg (by omega),Option.map_some,Qg (by omega)];rfl
  ·rw[Qr (by omega),Qr (by simp;omega)];rfl
 ·intro i hi;show l[i]?=some (l[i]?.getD undef);rw[Qg (by omega)];rfl
theorem wFrm.out {s:ByteArray}{lv iv:Value}{a:Act}(h:wFrm s lv iv a):∃u:Nat->Value,a = { tmps:=#[.string s,u 1,u 2,lv,iv,u 5,u 6,u 7,u 8,u 9,u 10,u 11,u 12,u 13,u 14,u 15,u 16,u 17,u 18,u 19,u 20,u 21,u 22,u 23,u 24,u 25,u 26,u 27,u 28,u 29,u 30,u 31,u 32,u 33,u 34,u 35,u 36,u 37,u 38,u 39,u 40,u 41,u 42,u 43,u 44,u 45,u 46,u 47,u 48,u 49,u 50,u 51,u 52,u 53,u 54,u 55,u 56,u 57,u 58,u 59,u 60,u 61,u 62,u 63,u 64,u 65,u 66,u 67,u 68,u 69,u 70,u 71,u 72,u 73,u 74,u 75,u 76,u 77,u 78,u 79,u 80,u 81,u 82,u 83,u 84,u 85,u 86,u 87,u 88,u 89,u 90,u 91,u 92,u 93,u 94,u 95,u 96,u 97,u 98,u 99,u 100,u 101,u 102,u 103,u 104,u 105,u 106,u 107,u 108,u 109,u 110,u 111,u 112,u 113,u 114,u 115,u 116,u 117,u 118,u 119,u 120,u 121,u 122,u 123,u 124,u 125,u 126,u 127,u 128,u 129,u 130,u 131,u 132,u 133,u 134,u 135,u 136,u 137,u 138,u 139,u 140,u 141,u 142,u 143,u 144,u 145,u 146,u 147,u 148,u 149,u 150,u 151,u 152,u 153,u 154,u 155,u 156,u 157,u 158,u 159,u 160,u 161,u 162,u 163,u 164,u 165,u 166,u 167,u 168,u 169,u 170,u 171,u 172,u 173,u 174,u 175,u 176,u 177,u 178,u 179,u 180,u 181,u 182,u 183,u 184,u 185,u 186,u 187,u 188,u 189,u 190,u 191,u 192,u 193,u 194,u 195,u 196,u 197,u 198,u 199,u 200,u 201,u 202,u 203,u 204,u 205,u 206,u 207,u 208,u 209,u 210,u 211,u 212,u 213,u 214,u 215,u 216,u 217,u 218,u 219,u 220,u 221,u 222,u 223,u 224,u 225,u 226,u 227,u 228,u 229,u 230,u 231,u 232,u 233,u 234,u 235,u 236,u 237,u 238,u 239,u 240,u 241,u 242,u 243,u 244,u 245,u 246,u 247,u 248,u 249,u 250,u 251],defers:=[] }:=by
 obtain⟨tm,df⟩:=a;obtain⟨l⟩:=tm;obtain⟨h1,h2,h3,h4,h5⟩:=h;simp only at h1 h2 h3 h4 h5;obtain⟨u,hl,hu⟩:=zv4 l (by simpa using h1);refine⟨u,?_⟩;have e:∀i v,i<252->l[i]?=some v->u i=v:=λi v hi hv=>by
  have:=hu i hi;rw[hv] at this;exact(Qy this).symm
 have e0:=e 0 (.string s) (by omega) (by simpa using h2);have e3:=e 3 lv (by omega) (by simpa using h3);have e4:=e 4 iv (by omega) (by simpa using h4);rw[hl,h5,e0,e3,e4]
structure z3w (s:ByteArray)(lv iv nv:Value)(a:Act):Prop where
 size:a.tmps.size=252
 zero:a.tmps[0]?=some (.string s)
 three:a.tmps[3]?=some lv
 four:a.tmps[4]?=some iv
 ten:a.tmps[10]?=some nv
 defers:a.defers=[]
theorem z3w.out {s:ByteArray}{lv iv nv:Value}{a:Act}(h:z3w s lv iv nv a):∃u:Nat->Value,a = { tmps:=#[.string s,u 1,u 2,lv,iv,u 5,u 6,u 7,u 8,u 9,nv,u 11,u 12,u 13,u 14,u 15,u 16,u 17,u 18,u 19,u 20,u 21,u 22,u 23,u 24,u 25,u 26,u 27,u 28,u 29,u 30,u 31,u 32,u 33,u 34,u 35,u 36,u 37,u 38,u 39,u 40,u 41,u 42,u 43,u 44,u 45,u 46,u 47,u 48,u 49,u 50,u 51,u 52,u 53,u 54,u 55,u 56,u 57,u 58,u 59,u 60,u 61,u 62,u 63,u 64,u 65,u 66,u 67,u 68,u 69,u 70,u 71,u 72,u 73,u 74,u 75,u 76,u 77,u 78,u 79,u 80,u 81,u 82,u 83,u 84,u 85,u 86,u 87,u 88,u 89,u 90,u 91,u 92,u 93,u 94,u 95,u 96,u 97,u 98,u 99,u 100,u 101,u 102,u 103,u 104,u 105,u 106,u 107,u 108,u 109,u 110,u 111,u 112,u 113,u 114,u 115,u 116,u 117,u 118,u 119,u 120,u 121,u 122,u 123,u 124,u 125,u 126,u 127,u 128,u 129,u 130,u 131,u 132,u 133,u 134,u 135,u 136,u 137,u 138,u 139,u 140,u 141,u 142,u 143,u 144,u 145,u 146,u 147,u 148,u 149,u 150,u 151,u 152,u 153,u 154,u 155,u 156,u 157,u 158,u 159,u 160,u 161,u 162,u 163,u 164,u 165,u 166,u 167,u 168,u 169,u 170,u 171,u 172,u 173,u 174,u 175,u 176,u 177,u 178,u 179,u 180,u 181,u 182,u 183,u 184,u 185,u 186,u 187,u 188,u 189,u 190,u 191,u 192,u 193,u 194,u 195,u 196,u 197,u 198,u 199,u 200,u 201,u 202,u 203,u 204,u 205,u 206,u 207,u 208,u 209,u 210,u 211,u 212,u 213,u 214,u 215,u 216,u 217,u 218,u 219,u 220,u 221,u 222,u 223,u 224,u 225,u 226,u 227,u 228,u 229,u 230,u 231,u 232,u 233,u 234,u 235,u 236,u 237,u 238,u 239,u 240,u 241,u 242,u 243,u 244,u 245,u 246,u 247,u 248,u 249,u 250,u 251],defers:=[] }:=by
 obtain⟨tm,df⟩:=a;obtain⟨l⟩:=tm;obtain⟨h1,h2,h3,h4,h6,h5⟩:=h;simp only at h1 h2 h3 h4 h5 h6;obtain⟨u,hl,hu⟩:=zv4 l (by simpa using h1);refine⟨u,?_⟩;have e:∀i v,i<252->l[i]?=some v->u i=v:=λi v hi hv=>by
  have:=hu i hi;rw[hv] at this;exact(Qy this).symm
 have e0:=e 0 (.string s) (by omega) (by simpa using h2);have e3:=e 3 lv (by omega) (by simpa using h3);have e4:=e 4 iv (by omega) (by simpa using h4);have e10:=e 10 nv (by omega) (by simpa using h6);rw[hl,h5,e0,e3,e4,e10]
theorem zrp (c:UInt8)(l:List UInt8):l[S.cnt c l]?≠some c:=by
 induction l with
 | nil=>simp
 | cons x r ih=>
  simp only[S.cnt];split
  ·rw[List.getElem?_cons_succ];exact ih
  ·rename_i h;simpa using h
theorem zxa (t:List UInt8)(i:Nat)(hi:i<=t.length):spB t i<=i/\(∀j,j<spB t i->t[i-1-j]?=some 32)/\(spB t i<i->t[i-1-spB t i]?≠some 32):=by
 have hl:(t.take i).reverse.length=i:=by rw[List.length_reverse,Ql];omega
 have hg:∀j,j<i->(t.take i).reverse[j]?=t[i-1-j]?:=λj hj=>by
  rw[List.getElem?_reverse (by rw[Ql];omega),Ql,Nat.min_eq_left hi,List.getElem?_take,if_pos (by omega)]
 have hle:spB t i<=i:=by have:=S.zd3 32 (t.take i).reverse;rw[hl] at this;exact this
 refine⟨hle,λj hj=>?_,λh=>?_⟩
 ·rw[<-hg j (by omega)];exact zmk 32 _ j hj
 ·rw[<-hg _ h];exact zrp 32 _
theorem WL.line {w wr w2:World}{t:List UInt8}{qs:List (RPt × Value)}{i m0:Nat}{a:Option Addr}{cap:Nat}{ob:Obj}{v:Value}{np:RPt}(h:WL w t qs i a cap wr)(hs:zgu t (qs.map Prod.fst) i ((qs.map Prod.fst).take m0++[np]) (i+1))(hm:m0<=qs.length)(hz:np.s.length+np.left=0)(hn:np.n=0)(hk:np.node.kids=[])(hsp:spB t (i+1)=0)
  (ho:w2.ownsRow (wr.alloc ob).heap.size 196 16 v (m0+1) (za9 (qs.take m0)++pt16 np (.slice none 0 0))) (hg:(wr.alloc ob).grownBy w2 none) :
  ∃qs' g cap1,v=.slice (some ⟨g,0,none⟩) (m0+1) cap1/\qs'.length=m0+1/\WL w t qs' (i+1) (some ⟨g,0,none⟩) cap1 w2:=by
 have hw:=h.below.size;have hbX:Below wr.heap.size wr (wr.alloc ob):=(Below.refl _ _).alloc (Qc _) ob;have bg:=hbX.size;have htl:(qs.take m0).length=m0:=by rw[Ql];omega
 obtain⟨g,cap1,rfl,hg1,hg2⟩:=ho.form (by omega);have hbl:∀x,x<wr.heap.size->w2.heap[x]?=wr.heap[x]?:=λx hx=>by rw[hg.block x (by omega) (by simp),hbX.block x hx]
 refine⟨qs.take m0++[(np,.slice none 0 0)],g,cap1,rfl,by simp;omega,⟨⟨?_,?_⟩,λj q hj=>?_⟩,?_,?_,?_,?_,?_,?_⟩
 ·rw[zc5]
 ·rcases ho.2 with ⟨e1,_⟩|⟨g',c',cur,e1,e2,e3,e4,e5,e6,e7⟩
  ·cases e1
  ·refine .inr ⟨g',c',cur,?_,by omega,e3,?_,e5,e6,?_⟩
   ·rw[Qa,htl];exact e1
   ·rw[Qa,htl];exact e4
   ·rw[Qa,htl,zht];have e:za9 [(np,Value.slice none 0 0)]=pt16 np (.slice none 0 0):=(by simp[za9]);rw[e];exact e7
 ·by_cases hjl:j<(qs.take m0).length
  ·rw[Qbd hjl,List.getElem?_take,if_pos (by omega)] at hj;refine(h.own.kids j q hj).move (λx hx=>⟨hx.1,by have:=hg.size;omega,?_⟩) (λx hx=>hbl x hx.2.1);show some x≠some g;intro e;injection e with e;omega
  ·rw[Qu (by omega)] at hj;have hj0:j-(qs.take m0).length=0:=by have:=(Qb.1 hj).1;simp at this;omega
   rw[hj0] at hj;simp at hj;subst hj;rw[hk];exact .nil
 ·have:=h.len;simp;omega
 ·rw[zd7,zef];have h1:=ze8 qs m0;have h2:=h.tot;have e:zc8 ([]:List (RPt × Value))=0:=rfl;rw[e];show zc8 (qs.take m0)+(np.s.length+np.left+0)<=i+1;omega
 ·intro j p hj;by_cases hjl:j<(qs.take m0).length
  ·rw[Qbd hjl,List.getElem?_take,if_pos (by omega)] at hj;exact h.nums j p hj
  ·rw[Qu (by omega)] at hj;have hj0:j-(qs.take m0).length=0:=by have:=(Qb.1 hj).1;simp at this;omega
   rw[hj0] at hj;simp at hj;subst hj;show np.n<=1000000;omega
 ·rw[hsp];exact Qt _
 ·intro ns hns;rw[Qv,List.map_take] at hns;exact h.toL ns (.step _ _ _ _ _ hs hns)
 ·exact h.below.trans (Below.grown (hbX.mono hw) hg (by omega) (λq hq=>by cases hq))
theorem z6a (p:RPt)(a:Option Addr)(n c:Nat):∀v∈pt16 p (.slice a n c),v.oneCell'=true:=by
 intro v hv;simp only[pt16,List.mem_cons,List.not_mem_nil,or_false] at hv;rcases hv with rfl|rfl|rfl|rfl|rfl|rfl|rfl|rfl|rfl|rfl|rfl|rfl|rfl|rfl|rfl|rfl<;>rfl
theorem apPt {ops:Array Oper}{rest:List Oper}{o:Oper}{a:Act}{Q:Exit->Act->World->Prop}(wx:World)(p:RPt)(ka:Option Addr)(kn kc:Nat)(hgd:o.guard=none)(s x:Operand)(ho:o.op=.call { callee:=.builtin .append,args:=#[s,x],argTypes:=#[194,194] })
  (base:Nat) (v:Value) (n:Nat) (xs:List Value) (hs:a.eval s=v) (hown:(wx.alloc (.cells (pt16 p (.slice ka kn kc)).toArray 196)).ownsRow base 196 16 v n xs) (hx:a.eval x=.slice (some ⟨wx.heap.size,0,none⟩) 1 1) (hn:n<=9000000) (hb:base<=wx.heap.size)
  (h:∀g cap w',w'.ownsRow base 196 16 (.slice (some ⟨g,0,none⟩) (n+1) cap) (n+1) (xs++pt16 p (.slice ka kn kc))->(wx.alloc (.cells (pt16 p (.slice ka kn kc)).toArray 196)).grownBy w' v.ownBlock->(v.ownBlock=some g\/g=wx.heap.size+1)->wpList prog ops Q rest (a.put o.dst (.slice (some ⟨g,0,none⟩) (n+1) cap)) w') :
  wpList prog ops Q (o::rest) a (wx.alloc (.cells (pt16 p (.slice ka kn kc)).toArray 196)):=by
 obtain⟨i0,hi',hi0,hi1,hi2⟩:=info_parts Tryz.zm9;exact wpList_append_lies _ hgd s x 194 ho base 196 i0 (.agg #[.int .i64 0,.string ⟨#[]⟩,.int .i64 0,.int .i64 0,.int .i64 0,.string ⟨#[]⟩,.string ⟨#[]⟩,.int .i64 0,.slice none 0 0,.int .u8 0,.int .i64 0,.int .i64 0,.bool false,.bool false,.bool false,.bool false]) 16 144 underlying194 hi' hi0 hi1 hi2 rfl (by decide) v n xs hs hown ⟨wx.heap.size,0,none⟩ 1 1 (pt16 p (.slice ka kn kc)) hx rfl (λj u hj=>World.news_of_block (za1 _ _) j u (by simpa using hj)) (z6a p ka kn kc) (by decide) (by unfold maxLen;omega) (by omega) (by simp;omega) (wx.heap.size+1) (by simp) (λg cap w' h1 h2 h3 _=>h g cap w' h1 h2 h3)
theorem zrr:WOK (λs ns=>WTo s [] 0 ns):=by
 intro s w hs;obtain⟨i0,hi',hi0,hi1,hi2⟩:=info_parts Tryz.zm9;obtain⟨t,ht⟩:=Qyy (s.data.toList);have hst:=hid (WL.start w t);have jl:=hid ht;have htl:Hid (t.length=s.size):=hid (by rw[<-ht,S.lda]);rw[ht];clear ht;go_enter func95,ntmps95;go_upto_region 3 with fail
 refine wp_loop_ghost_k (λgk ac wr=>∃(i n' cap':Nat) (a':Option Addr),i<=s.size/\gk=s.size-i/\wFrm s (.slice a' n' cap') (.int .i64 (i:Nat)) ac/\n'<=i/\Hid (∃qs,n'=qs.length/\WL w t qs i a' cap' wr)) s.size ⟨0,0,0,none,Qt _,rfl,⟨rfl,rfl,rfl,rfl,rfl⟩,Qc _,hid ⟨[],rfl,hst.out⟩⟩ ?_;rintro gk ac wr⟨i,n',cap',a',hi,hgk,wh,hn',hr⟩ J K hJ hK;obtain⟨u,rfl⟩:=wh.out;have gq:=hid hgk;clear hgk wh;clear hst;obtain⟨qs,hq,hW⟩:=hr.out;subst hq;have dx:=hid hW;have qx:w.heap.size<=wr.heap.size:=hW.below.size;clear hr hW;by_cases hlt:i<s.size
 ·have hJ1:(i:Int)<(s.size:Int):=by omega
  have hJ0:(0:Int)<=(i:Int):=by omega
  obtain⟨nx,hnx⟩:=Qyy (s.extract (i+1) (i+2));have jk:Hid (nx.data.toList=(t.drop (i+1)).take 1):=hid (by rw[<-hnx,zd4,jl.out,show i+2-(i+1)=1 by omega]);have zm:=hid hnx;clear hnx;obtain⟨c,hc⟩:=Qyy (s[i]);have hgc:Hid (t[i]?=some c):=hid (by rw[<-jl.out,S.zad s i hlt,hc]);have hwi1:IntKind.i64.wrap ((i:Int)+1)=(i:Int)+1:=by rw[IntKind.wrap_i64];omega
  have hwi2:IntKind.i64.wrap ((i:Int)+2)=(i:Int)+2:=by rw[IntKind.wrap_i64];omega
  go_upto_if 21 with fail
  go_cut [5] from 22 to 27 (λs5 wx=>s5=.string nx/\wr=wx)
  case first=>
   by_cases h1:i+1<s.size
   ·have h1':(i:Int)+1<(s.size:Int):=(by omega);have h2':(i:Int)+2<=(s.size:Int):=(by omega);have h3':(0:Int)<=(i:Int)+1:=(by omega);have h4':(i:Int)+1<=(i:Int)+2:=(by omega);go_wp2;go_meet;exact⟨by rw[zm.out],rfl⟩
   ·have h1':¬(i:Int)+1<(s.size:Int):=(by omega);have he:Hid (nx=⟨#[]⟩):=hid (by
     rw[<-S.zbp nx,jk.out,Qw (by rw[htl.out];omega)];rfl)
    go_wp2;go_meet;exact⟨by rw[he.out],rfl⟩
  case rest=>
  obtain⟨rfl,rfl⟩:=hcut;have hown:Hid (∀(w1:World) ob,Below wr.heap.size wr w1->(w1.alloc ob).ownsRow w.heap.size 196 16 (.slice a' qs.length cap') qs.length (za9 qs)):=hid (λw1 ob hb=>(dx.out.own.after (hb.alloc hb.size ob)).own);obtain⟨L,hL⟩:=Qyy (qs.map Prod.fst);obtain⟨bn,hbn⟩:=Qyy (decide (t[i+1]?=some 10));have hnl:nx.toList=(t.drop (i+1)).take 1:=by rw[ByteArray.toList_eq];exact jk.out
  have yg:(nx.toList == [10])=bn:=by
   rw[hnl,<-hbn];cases h:t[i+1]? with
   | none=>rw[Qw (List.getElem?_eq_none_iff.1 h)];rfl
   | some d=>
    obtain⟨h1,h2⟩:=Qb.1 h;rw[Qm h1,h2,Qz,List.take_zero];by_cases e:d=10
    ·subst e;rfl
    ·rw[decide_eq_false (by simpa using e)];simp[e]
  have wm:=hid hbn;have hLH:=hid hL;have zn:=hid hnl;have lg:Hid (∀i' d,t[i']?=some d->d≠32->spB t (i' + 1)<=qs.length+1):=hid (λi' d h1 h2=>by rw[ze5 t i' d h1 h2];omega);clear hbn hL hnl;obtain⟨b1,hb1⟩:∃b1:Bool,(decide (c=92)&&bn)=b1:=⟨_,rfl⟩;have fq:=hid hb1;clear hb1;go_upto_region 9 with fail
  go_cut [39] from 40 to 47 (λs39 wx=>s39=.bool b1/\wr=wx)
  case first=>
   by_cases h92:c=92
   ·have e1:((c.toNat:Int) == 92)=true:=(by rw[h92];rfl);have he:Hid (b1=bn):=hid (by rw[<-fq.out,decide_eq_true h92,Bool.true_and]);clear h92;go_wp2;go_meet;exact⟨by rw[he.out],rfl⟩
   ·have e1:((c.toNat:Int) == 92)=false:=by
     rw[Qe];intro h;exact h92 (Qk.1 (by show c.toNat=92;omega))
    have he:Hid (b1=false):=hid (by rw[<-fq.out,decide_eq_false h92];rfl);clear h92;go_wp2;go_meet;exact⟨by rw[he.out],rfl⟩
  case rest=>
  obtain⟨rfl,rfl⟩:=hcut;cases b1
  case true=>
   have hcc:Hid (c=92/\t[i+1]?=some 10):=hid (by
    have:=fq.out;rw[Bool.and_eq_true,decide_eq_true_iff] at this;exact⟨this.1,by have h2:=wm.out;rw[this.2] at h2;exact of_decide_eq_true h2⟩)
   have vv:i+2<=s.size:=by
    have:=(Qb.1 hcc.out.2).1;rw[htl.out] at this;omega
   have bg:Hid (zgu t (qs.map Prod.fst) i (qs.map Prod.fst++[zh4 10 []]) (i+2)):=hid ⟨c,hgc.out,by rw[if_pos hcc.out];exact⟨rfl,rfl⟩⟩;have dw:=hid (lg.out (i+1) 10 hcc.out.2 (by decide));have jh:w.heap.size<=wr.heap.size:=by omega
   have hE1:Hid ((i+2)<=s.size):=hid (by omega);have hE2:Hid (qs.length+1<=(i+2)):=hid (by omega);have gy:Hid (s.size-(i+2)<gk):=hid (by have:=gq.out;omega);go_wp2_with (at_builtin;refine apPt wr (zh4 10 []) none 0 0 (by rfl) _ _ (by rfl) w.heap.size (.slice a' qs.length cap') qs.length (za9 qs) (by rfl) (hown.out wr _ (Below.refl _ _)) (by rfl) (by omega) jh ?_)
   intro g' dh w2 hown1 hgrow hat;have hR:=hid (dx.out.push (np:=zh4 10 []) (kv:=.slice none 0 0) (bg.out) (by omega) (by simp[zh4,zd6]) (by simp[zh4,zd6]) (dw.out) (Below.refl _ _) (.nil) hown1 hgrow hat);clear hown1 hgrow hat;go_wp2;refine Handed.intro (s.size-(i+2)) gy.out (hJ _ _ _ ⟨(i+2),qs.length+1,dh,some ⟨g',0,none⟩,hE1.out,rfl,⟨rfl,rfl,rfl,rfl,rfl⟩,hE2.out,hid (by obtain⟨q2,h1,h2⟩:=hR.out;exact⟨q2,h1.symm,h2⟩)⟩)
  case false=>
  have n1:Hid (¬(c=92/\t[i+1]?=some 10)):=hid (λh=>by
   have:=fq.out;rw[decide_eq_true h.1,Bool.true_and] at this;have h2:=wm.out;rw[this,decide_eq_false_iff_not] at h2;exact h2 h.2)
  clear fq;obtain⟨bm,hbm⟩:=Qyy (decide ((t[i+1]?.map S.mark)=some true));have jq:=hid hbm;obtain⟨b2,hb2⟩:∃b2:Bool,(decide (c=92)&&bm)=b2:=⟨_,rfl⟩;have jg:=hid hb2;clear hbm hb2;go_upto_region 12 with fail
  go_cut [56] from 57 to 69 (λs56 wx=>s56=.bool b2/\wr=wx)
  case first=>
   by_cases h92:c=92
   ·have e1:((c.toNat:Int) == 92)=true:=(by rw[h92];rfl);have he:Hid (b2=bm):=hid (by rw[<-jg.out,decide_eq_true h92,Bool.true_and]);clear h92;cases hd:t[i+1]? with
    | none=>
     have hn0:nx=⟨#[]⟩:=by
      rw[<-S.zbp nx,jk.out,Qw (List.getElem?_eq_none_iff.1 hd)];rfl
     have he2:Hid (b2=false):=hid (by rw[he.out,<-jq.out,hd];rfl);subst hn0;clear yg hd;go_wp2;go_meet;exact⟨by rw[he2.out],rfl⟩
    | some d=>
     obtain⟨h1,h2⟩:=Qb.1 hd;have hnd:nx.data.toList=[d]:=(by rw[jk.out,Qm h1,h2];rfl);have hnz:nx.size=1:=(by rw[<-S.lda,hnd];rfl);have hpos:0<nx.size:=(by omega);have hn00:nx[0]=d:=by
      have:=S.zad nx 0 hpos;rw[hnd] at this;exact(Qy this).symm
     have hTn:=S.zbo nx hpos;have hTe:=S.zb6 nx hpos;have hMk:=hid (zr2 d wr);have he2:Hid (b2=S.mark d):=hid (by rw[he.out,<-jq.out,hd,Option.map_some];cases S.mark d<;>simp);have hJz:(0:Int)<(nx.size:Int):=(by omega);clear hd hnd hnz yg h1 h2;go_wp2_with (go_at_call 133;refine hMk.out.mono ?_;rintro e w'⟨rfl,rfl⟩)
     go_meet;exact⟨by rw[he2.out],rfl⟩
   ·have e1:((c.toNat:Int) == 92)=false:=by
     rw[Qe];intro h;exact h92 (Qk.1 (by show c.toNat=92;omega))
    have he:Hid (b2=false):=hid (by rw[<-jg.out,decide_eq_false h92];rfl);clear h92;go_wp2;go_meet;exact⟨by rw[he.out],rfl⟩
  case rest=>
  obtain⟨rfl,rfl⟩:=hcut;cases b2
  case true=>
   have hcc:Hid (c=92/\(t[i+1]?.map S.mark)=some true):=hid (by
    have:=jg.out;rw[Bool.and_eq_true,decide_eq_true_iff] at this;exact⟨this.1,by have h2:=jq.out;rw[this.2] at h2;exact of_decide_eq_true h2⟩)
   obtain⟨d,hd⟩:∃d,t[i+1]?=some d:=by
    cases h:t[i+1]? with
    | none=>have:=hcc.out.2;rw[h] at this;simp at this
    | some d=>exact⟨d,rfl⟩
   have vv:i+2<=s.size:=by
    have:=(Qb.1 hd).1;rw[htl.out] at this;omega
   have hd32:d≠32:=by
    intro e;have:=hcc.out.2;rw[hd,e] at this;simp[S.mark] at this
   have bg:Hid (zgu t (qs.map Prod.fst) i (qs.map Prod.fst++[txtR ((t.drop (i+1)).take 1)]) (i+2)):=hid ⟨c,hgc.out,by rw[if_neg n1.out,if_pos hcc.out];exact⟨rfl,rfl⟩⟩;have dw:=hid (lg.out (i+1) d hd hd32);have hTx:Hid (Calls prog 134 #[.string nx] wr λe w'=>e=.returned (.agg #[.int .i64 0,.string nx,.int .i64 0,.int .i64 0,.int .i64 0,.string ⟨#[]⟩,.string ⟨#[]⟩,.int .i64 0,.slice none 0 0,.int .u8 0,.int .i64 0,.int .i64 0,.bool false,.bool false,.bool false,.bool false])/\Below wr.heap.size wr w'):=hid ((ziy nx wr).mono (λe w' ⟨h1,h2⟩=>⟨by rw[h1];unfold zow pt16 txtR;simp only[S.zbp];rfl,h2⟩));clear hd hd32 yg;go_wp2_with (fail);refine hTx.out.mono ?_;rintro e w1⟨rfl,hb1⟩;have fq:=hid hb1;have kr:wr.heap.size<=w1.heap.size:=hb1.size;clear hb1;have jh:w.heap.size<=w1.heap.size:=by omega
   have hE1:Hid ((i+2)<=s.size):=hid (by omega);have hE2:Hid (qs.length+1<=(i+2)):=hid (by omega);have gy:Hid (s.size-(i+2)<gk):=hid (by have:=gq.out;omega);go_wp2_with (at_builtin;refine apPt w1 (txtR nx.data.toList) none 0 0 (by rfl) _ _ (by rfl) w.heap.size (.slice a' qs.length cap') qs.length (za9 qs) (by rfl) (hown.out w1 _ (fq.out)) (by rfl) (by omega) jh ?_)
   intro g' dh w2 hown1 hgrow hat;rw[jk.out] at hown1;have hR:=hid (dx.out.push (np:=txtR ((t.drop (i+1)).take 1)) (kv:=.slice none 0 0) (bg.out) (by omega) (by rw[<-jk.out];simp[txtR,jk.out];omega) (by simp[txtR]) (dw.out) (fq.out) (.nil) hown1 hgrow hat);clear hown1 hgrow hat;go_wp2;refine Handed.intro (s.size-(i+2)) gy.out (hJ _ _ _ ⟨(i+2),qs.length+1,dh,some ⟨g',0,none⟩,hE1.out,rfl,⟨rfl,rfl,rfl,rfl,rfl⟩,hE2.out,hid (by obtain⟨q2,h1,h2⟩:=hR.out;exact⟨q2,h1.symm,h2⟩)⟩)
  case false=>
  have n2:Hid (¬(c=92/\(t[i+1]?.map S.mark)=some true)):=hid (λh=>by
   have:=jg.out;rw[decide_eq_true h.1,Bool.true_and] at this;have h2:=jq.out;rw[this,decide_eq_false_iff_not] at h2;exact h2 h.2)
  clear jg jq;obtain⟨b3,hb3⟩:∃x:Bool,decide (c=96)=x:=⟨_,rfl⟩;have pq:=hid hb3;clear hb3;go_upto_region 15 with fail
  go_cut [77] from 78 to 81 (λsx wx=>sx=.bool b3/\wr=wx)
  case first=>
   have e1:((c.toNat:Int) == 96)=b3:=by
    rw[<-pq.out,Bool.eq_iff_iff,beq_iff_eq,decide_eq_true_iff,<-Qk];exact⟨λh=>by show c.toNat=96;omega,λh=>by have h2:c.toNat=96:=h;omega⟩
   go_wp2;go_meet;exact⟨rfl,rfl⟩
  case rest=>
  obtain⟨rfl,rfl⟩:=hcut;cases b3
  case true=>
   have hck:Hid (c=96):=hid (of_decide_eq_true pq.out);obtain⟨gn,hgn⟩:=Qyy (S.cnt 96 (t.drop i));obtain⟨gv,hgv⟩:=Qyy (grv t i);have hgn1:1<=gn:=by
    have h1:t.drop i=c::t.drop (i+1):=by
     obtain⟨h2,h3⟩:=Qb.1 hgc.out;rw[Qm h2,h3]
    rw[<-hgn,h1,hck.out];simp[S.cnt]
   have hgnl:i+gn<=s.size:=by rw[<-hgn];have:=S.zd3 96 (t.drop i);rw[Qf,htl.out] at this;omega
   have hMy:Hid (Calls prog 126 #[.string s,.int .i64 (i:Nat),.int .u8 96] wr λe w'=>e=.returned (.int .i64 (gn:Nat))/\wr=w'):=hid (by
    have:=zdl s i 96 wr hs (by omega);rw[jl.out,hgn] at this;exact this.mono (λe w' ⟨h1,h2⟩=>⟨h1,h2.symm⟩))
   have hGr:Hid (Calls prog 135 #[.string s,.int .i64 (i:Nat)] wr λe w'=>e=.returned (.int .i64 (gv:Nat))/\wr=w'):=hid (by
    have:=zrt s i wr hs hlt (by rw[hc];exact hck.out);rw[jl.out,hgv] at this;exact this)
   have hgnH:=hid hgn;have zw:=hid hgv;have hwin:IntKind.i64.wrap ((i:Int)+(gn:Int))=((i+gn:Nat):Int):=by rw[IntKind.wrap_i64];omega
   by_cases hg0:0<gv
   ·have hgb:=zpo t i (by rw[hgn];exact hgn1) (by rw[hgv];exact hg0);rw[hgn,hgv,htl.out] at hgb;obtain⟨hgb1,hgb2,vw⟩:=hgb;obtain⟨gm,hgm⟩:∃gm,gv=gm+gn:=⟨gv-gn,by omega⟩;obtain⟨sp,hsp⟩:=Qyy (s.extract (i+gn) gm);obtain⟨st,qg⟩:=Qyy (S.B (znd sp.data.toList));have hSp:Hid (Calls prog 136 #[.string sp] wr λe w'=>e=.returned (.string st)/\wr=w'):=hid (by
     have:=zxc sp wr (by rw[<-hsp,ByteArray.size_extract];omega);rw[qg] at this;exact this)
    have qy:sp.data.toList=(t.drop (i+gn)).take (gv-gn-(i+gn)):=(by rw[<-hsp,zd4,jl.out,hgm,Nat.add_sub_cancel]);have zh:Hid (st.data.toList=znd ((t.drop (i+gn)).take (gv-gn-(i+gn)))):=hid (by rw[<-qg,S.zaz,qy]);have bg:Hid (zgu t (qs.map Prod.fst) i (qs.map Prod.fst++[zh4 11 st.data.toList]) gv):=hid ⟨c,hgc.out,by rw[if_neg n1.out,if_neg n2.out,if_pos hck.out,hgn,hgv,if_pos hg0,zh.out];exact⟨rfl,rfl⟩⟩;have dw:Hid (spB t gv<=qs.length+1):=hid (by
     have:=ze5 t (gv-1) 96 vw (by decide);rw[Nat.sub_add_cancel (by omega)] at this;omega)
    have hg0':(0:Int)<(gv:Int):=(by omega);have hwgn:IntKind.i64.wrap ((gv:Int)-(gn:Int))=(gm:Int):=(by rw[IntKind.wrap_i64];omega);have hwgn2:(gv:Int)-(gn:Int)=(gm:Int):=(by omega);have hJe:((i+gn:Nat):Int)<=(gm:Int):=(by omega);have hJe1:(i:Int)+(gn:Int)<=(gm:Int):=(by omega);have hJe2:(gm:Int)<=(s.size:Int):=(by omega);have hJe3:(0:Int)<=((i+gn:Nat):Int):=(by omega);have hLk:Hid (pt16 (zh4 11 st.data.toList) (.slice none 0 0)=[.int .i64 1,.string ⟨#[]⟩,.int .i64 0,.int .i64 11,.int .i64 0,.string ⟨#[]⟩,.string st,.int .i64 0,.slice none 0 0,.int .u8 0,.int .i64 0,.int .i64 0,.bool false,.bool false,.bool false,.bool false]):=hid (by
     unfold zh4 zd6 pt16;simp only[Rn.text,S.zbp];rfl)
    have hgmH:=hid hgm;clear hgm vw qg qy hgn hgv;go_wp2_with (fail);refine hMy.out.mono ?_;rintro e w'⟨rfl,rfl⟩;go_wp2_with (fail);refine hGr.out.mono ?_;rintro e w'⟨rfl,rfl⟩;go_wp2_with (fail);refine hSp.out.mono ?_;rintro e w'⟨rfl,rfl⟩;have jh:w.heap.size<=wr.heap.size:=(by omega);have hE1:Hid (gv<=s.size):=hid (by omega);have hE2:Hid (qs.length+1<=gv):=hid (by omega);have gy:Hid (s.size-gv<gk):=hid (by have:=gq.out;omega);go_wp2_with (at_builtin;refine apPt wr (zh4 11 st.data.toList) none 0 0 (by rfl) _ _ (by rfl) w.heap.size (.slice a' qs.length cap') qs.length (za9 qs) (by rfl) (hown.out wr _ (Below.refl _ _)) (by rfl) (by omega) jh ?_)
    intro g' dh w2 hown1 hgrow hat;have hR:=hid (dx.out.push (np:=zh4 11 st.data.toList) (kv:=.slice none 0 0) (bg.out) (by omega) (by simp[zh4,zd6]) (by simp[zh4,zd6]) (dw.out) (Below.refl _ _) (.nil) hown1 hgrow hat);clear hown1 hgrow hat;go_wp2;refine Handed.intro (s.size-gv) gy.out (hJ _ _ _ ⟨gv,qs.length+1,dh,some ⟨g',0,none⟩,hE1.out,rfl,⟨rfl,rfl,rfl,rfl,rfl⟩,hE2.out,hid (by obtain⟨q2,h1,h2⟩:=hR.out;exact⟨q2,h1.symm,h2⟩)⟩)
   ·have zx:gv=0:=(by omega);subst zx;obtain⟨sb,hsb⟩:=Qyy (s.extract i (i+gn));have vg:Hid (sb.data.toList=(t.drop i).take gn):=hid (by rw[<-hsb,zd4,jl.out,show i+gn-i=gn by omega]);have hTx:Hid (Calls prog 134 #[.string sb] wr λe w'=>e=.returned (.agg #[.int .i64 0,.string sb,.int .i64 0,.int .i64 0,.int .i64 0,.string ⟨#[]⟩,.string ⟨#[]⟩,.int .i64 0,.slice none 0 0,.int .u8 0,.int .i64 0,.int .i64 0,.bool false,.bool false,.bool false,.bool false])/\Below wr.heap.size wr w'):=hid ((ziy sb wr).mono (λe w' ⟨h1,h2⟩=>⟨by rw[h1];unfold zow pt16 txtR;simp only[S.zbp];rfl,h2⟩));have bg:Hid (zgu t (qs.map Prod.fst) i (qs.map Prod.fst++[txtR sb.data.toList]) (i+gn)):=hid ⟨c,hgc.out,by rw[if_neg n1.out,if_neg n2.out,if_pos hck.out,zw.out,if_neg (by omega),hgn,vg.out];exact⟨rfl,rfl⟩⟩;have dw:Hid (spB t (i+gn)<=qs.length+1):=hid (by
     have h5:=zmk 96 (t.drop i) (gn-1) (by rw[hgn];omega);rw[Qn] at h5;have:=ze5 t (i+(gn-1)) 96 h5 (by decide);rw[show i+(gn-1)+1=i+gn by omega] at this;omega)
    have zl:Hid (sb.data.toList.length<=gn):=hid (by rw[vg.out,Ql];omega);have hLk:Hid (pt16 (txtR sb.data.toList) (.slice none 0 0)=[.int .i64 0,.string sb,.int .i64 0,.int .i64 0,.int .i64 0,.string ⟨#[]⟩,.string ⟨#[]⟩,.int .i64 0,.slice none 0 0,.int .u8 0,.int .i64 0,.int .i64 0,.bool false,.bool false,.bool false,.bool false]):=hid (by unfold pt16 txtR;simp only[S.zbp];rfl);have hJe:(i:Int)<=((i+gn:Nat):Int):=(by omega);have hJe2:((i+gn:Nat):Int)<=(s.size:Int):=(by omega);have hJe4:(i:Int)+(gn:Int)<=(s.size:Int):=(by omega);have hJe5:(i:Int)<=(i:Int)+(gn:Int):=(by omega);clear hgn hgv;go_wp2_with (fail);refine hMy.out.mono ?_;rintro e w'⟨rfl,rfl⟩;go_wp2_with (fail);refine hGr.out.mono ?_;rintro e w'⟨rfl,rfl⟩;go_wp2_with (fail);refine hTx.out.mono ?_;rintro e w1⟨rfl,hb1⟩;have fq:=hid hb1;have kr:wr.heap.size<=w1.heap.size:=hb1.size;clear hb1;have jh:w.heap.size<=w1.heap.size:=(by omega);have hE1:Hid ((i+gn)<=s.size):=hid (by omega);have hE2:Hid (qs.length+1<=(i+gn)):=hid (by omega);have gy:Hid (s.size-(i+gn)<gk):=hid (by have:=gq.out;omega);go_wp2_with (at_builtin;refine apPt w1 (txtR sb.data.toList) none 0 0 (by rfl) _ _ (by rfl) w.heap.size (.slice a' qs.length cap') qs.length (za9 qs) (by rfl) (hown.out w1 _ (fq.out)) (by rfl) (by omega) jh ?_)
    intro g' dh w2 hown1 hgrow hat;have hR:=hid (dx.out.push (np:=txtR sb.data.toList) (kv:=.slice none 0 0) (bg.out) (by omega) (by show sb.data.toList.length+0<=_;have:=zl.out;omega) (by simp[txtR]) (dw.out) (fq.out) (.nil) hown1 hgrow hat);clear hown1 hgrow hat;go_wp2;refine Handed.intro (s.size-(i+gn)) gy.out (hJ _ _ _ ⟨(i+gn),qs.length+1,dh,some ⟨g',0,none⟩,hE1.out,rfl,⟨rfl,rfl,rfl,rfl,rfl⟩,hE2.out,hid (by obtain⟨q2,h1,h2⟩:=hR.out;exact⟨q2,h1.symm,h2⟩)⟩)
  case false=>
  have n3:Hid (¬c=96):=hid (of_decide_eq_false pq.out);clear pq;obtain⟨ag,hag⟩:=Qyy (ang t i);have hAg:Hid (Calls prog 137 #[.string s,.int .i64 (i:Nat)] wr λe w'=>e=.returned (.int .i64 (ag:Nat))/\wr=w'):=hid (by
   have:=zri s i wr hs hlt;rw[jl.out,hag] at this;exact this)
  obtain⟨b4,hb4⟩:∃b4:Bool,(decide (c=60)&&decide (0<ag))=b4:=⟨_,rfl⟩;have jm:=hid hb4;have kg:=hid hag;clear hb4 hag;go_upto_region 23 with fail
  go_cut [119] from 120 to 129 (λsx wx=>sx=.bool b4/\wr=wx)
  case first=>
   by_cases h60:c=60
   ·have e1:((c.toNat:Int) == 60)=true:=(by rw[h60];rfl);by_cases h0:0<ag
    ·have he:Hid (b4=true):=hid (by rw[<-jm.out,decide_eq_true h60,decide_eq_true h0];rfl);have h0':(0:Int)<(ag:Int):=(by omega);clear h60;go_wp2_with (go_at_call 137;refine hAg.out.mono ?_;rintro e w'⟨rfl,rfl⟩)
     go_meet;exact⟨by rw[he.out],rfl⟩
    ·have he:Hid (b4=false):=hid (by rw[<-jm.out,decide_eq_false h0,Bool.and_false]);have h0':¬(0:Int)<(ag:Int):=(by omega);have h00:ag=0:=(by omega);subst h00;clear h60 h0;go_wp2_with (go_at_call 137;refine hAg.out.mono ?_;rintro e w'⟨rfl,rfl⟩)
     go_meet;exact⟨by rw[he.out],rfl⟩
   ·have e1:((c.toNat:Int) == 60)=false:=by
     rw[Qe];intro h;exact h60 (Qk.1 (by show c.toNat=60;omega))
    have he:Hid (b4=false):=hid (by rw[<-jm.out,decide_eq_false h60];rfl);clear h60;go_wp2;go_meet;exact⟨by rw[he.out],rfl⟩
  case rest=>
  obtain⟨rfl,rfl⟩:=hcut;cases b4
  case true=>
   have hck:Hid (c=60/\0<ang t i):=hid (by
    have:=jm.out;rw[Bool.and_eq_true,decide_eq_true_iff,decide_eq_true_iff] at this;rw[kg.out];exact this)
   have hab:=zpy t i hck.out.2;rw[kg.out,htl.out] at hab;obtain⟨hab1,hab2,xq⟩:=hab;obtain⟨am,yh⟩:∃am,ag=am+1:=⟨ag-1,by omega⟩;obtain⟨ad,had⟩:=Qyy (s.extract (i+1) am);have hadH:Hid (ad.data.toList=(t.drop (i+1)).take (ang t i-1-(i+1))):=hid (by rw[<-had,zd4,jl.out,kg.out,yh,Nat.add_sub_cancel]);have bg:Hid (zgu t (qs.map Prod.fst) i (qs.map Prod.fst++[zpl ad.data.toList]) (am+1)):=hid ⟨c,hgc.out,by rw[if_neg n1.out,if_neg n2.out,if_neg n3.out,if_pos hck.out,hadH.out];exact⟨rfl,by rw[kg.out,yh]⟩⟩;have dw:Hid (spB t (am+1)<=qs.length+1):=hid (by
    rw[yh,Nat.add_sub_cancel] at xq;rw[ze5 t am 62 xq (by decide)];omega)
   subst yh;have hwt:IntKind.i64.wrap (((am+1:Nat):Int)-1)=(am:Int):=by rw[IntKind.wrap_i64];omega
   have hwt3:IntKind.i64.wrap (am:Int)=(am:Int):=by rw[IntKind.wrap_i64];omega
   have hwt4:(am:Int)+1-1=(am:Int):=by omega
   have hJe:(i:Int)+1<=(am:Int):=by omega
   have hJe2:(am:Int)<=(s.size:Int):=by omega
   have hJe3:(0:Int)<=(i:Int)+1:=by omega
   have yx:((i:Int)+1).toNat=i+1:=by omega
   obtain⟨W2,hW2⟩:=Qzz (wr.alloc (.cells #[.int .i64 0,.int .i64 8,.int .i64 0,.string ⟨#[]⟩,.string ad,.int .i64 0,.slice none 0 0] 118));have hb2:Below wr.heap.size wr W2:=by rw[hW2];exact(Below.refl _ _).alloc (Qc _) _
   have hx2:W2.heap[wr.heap.size]?=some (.cells #[.int .i64 0,.int .i64 8,.int .i64 0,.string ⟨#[]⟩,.string ad,.int .i64 0,.slice none 0 0] 118 (0,0)):=by rw[hW2];exact za1 _ _
   have hs2:W2.heap.size=wr.heap.size+1:=by rw[hW2];simp
   have vk:Hid (RepN W2 (λx=>wr.heap.size<=x/\x<W2.heap.size) (.slice (some ⟨wr.heap.size,0,none⟩) 1 1) (zpl ad.data.toList).node.kids):=hid (by
    refine RepN.some (ns:=[.nd 8 0 [] ad.data.toList 0 []]) wr.heap.size 0 1 (λ_=>.slice none 0 0) ⟨Qc _,by omega⟩ (Qc _) (λj x hj r y hy=>?_) (λj x hj=>?_)
    ·have hj0:j=0:=(by have:=(Qb.1 hj).1;simp at this;exact this);subst hj0;simp at hj;subst hj;have hy2:(#[.int .i64 0,.int .i64 8,.int .i64 0,.string ⟨#[]⟩,.string ad,.int .i64 0,.slice none 0 0]:Array Value)[r]?=some y:=by
      rw[<-hy];unfold rn7;simp only[Rn.text,S.zbp,List.getElem?_toArray];rfl
     rw[show 0+0*7+r=r by omega];exact za0 hx2 r y hy2
    ·have hj0:j=0:=(by have:=(Qb.1 hj).1;simp at this;exact this);subst hj0;simp at hj;subst hj;exact .nil)
   have kr:wr.heap.size<=W2.heap.size:=by omega
   have jg:=hid hb2;have qm:=hid hs2;have hadx:=had;clear hb2 hx2 hs2;have hLk:Hid (pt16 (zpl ad.data.toList) (.slice (some ⟨wr.heap.size,0,none⟩) 1 1)=[.int .i64 1,.string ⟨#[]⟩,.int .i64 0,.int .i64 12,.int .i64 0,.string ad,.string ⟨#[]⟩,.int .i64 0,.slice (some ⟨wr.heap.size,0,none⟩) 1 1,.int .u8 0,.int .i64 0,.int .i64 0,.bool false,.bool false,.bool false,.bool false]):=hid (by
    unfold zpl zd6 pt16;simp only[Rn.info,S.zbp];rfl)
   go_wp2_with (fail);refine hAg.out.mono ?_;rintro e w'⟨rfl,rfl⟩;go_upto_region 26 with fail
   have hone:Hid (∀v∈([.int .i64 1,.string ⟨#[]⟩,.int .i64 0,.int .i64 12,.int .i64 0,.string ad,.string ⟨#[]⟩,.int .i64 0,.slice (some ⟨wr.heap.size,0,none⟩) 1 1,.int .u8 0,.int .i64 0,.int .i64 0,.bool false,.bool false,.bool false,.bool false]:List Value),v.oneCell'=true):=hid (by
    intro v hv;simp only[List.mem_cons,List.not_mem_nil,or_false] at hv;rcases hv with rfl|rfl|rfl|rfl|rfl|rfl|rfl|rfl|rfl|rfl|rfl|rfl|rfl|rfl|rfl|rfl<;>rfl)
   have hnew:Hid (∀jj v,([.int .i64 1,.string ⟨#[]⟩,.int .i64 0,.int .i64 12,.int .i64 0,.string ad,.string ⟨#[]⟩,.int .i64 0,.slice (some ⟨wr.heap.size,0,none⟩) 1 1,.int .u8 0,.int .i64 0,.int .i64 0,.bool false,.bool false,.bool false,.bool false]:List Value)[jj]?=some v->(W2.alloc (.cells #[.int .i64 1,.string ⟨#[]⟩,.int .i64 0,.int .i64 12,.int .i64 0,.string ad,.string ⟨#[]⟩,.int .i64 0,.slice (some ⟨wr.heap.size,0,none⟩) 1 1,.int .u8 0,.int .i64 0,.int .i64 0,.bool false,.bool false,.bool false,.bool false] 196)).cell? ((⟨wr.heap.size+1,0,none⟩:Addr).add jj)=some v):=hid (λjj v hj=>by rw[<-qm.out];exact World.news_of_block (za1 _ _) jj v (by exact hj));have hres:Hid (∀ob g' dh w2,w2.ownsRow w.heap.size 196 16 (.slice (some ⟨g',0,none⟩) (qs.length+1) dh) (qs.length+1) (za9 qs++[.int .i64 1,.string ⟨#[]⟩,.int .i64 0,.int .i64 12,.int .i64 0,.string ad,.string ⟨#[]⟩,.int .i64 0,.slice (some ⟨wr.heap.size,0,none⟩) 1 1,.int .u8 0,.int .i64 0,.int .i64 0,.bool false,.bool false,.bool false,.bool false])->(W2.alloc ob).grownBy w2 (Value.slice a' qs.length cap').ownBlock->((Value.slice a' qs.length cap').ownBlock=some g'\/g'=W2.heap.size+1)->∃jd,jd.length=qs.length+1/\WL w t jd (am+1) (some ⟨g',0,none⟩) dh w2):=hid (λob g' dh w2 h1 h2 h3=>by
    rw[<-hLk.out] at h1;exact dx.out.push (np:=zpl ad.data.toList) (kv:=.slice (some ⟨wr.heap.size,0,none⟩) 1 1) (bg.out) (by omega) (by simp[zpl,zd6]) (by simp[zpl,zd6]) (dw.out) (jg.out) (vk.out) h1 h2 h3)
   have jh:w.heap.size<=W2.heap.size:=by omega
   have hA1:Hid (qs.length+1<=maxLen):=hid (by unfold maxLen;omega);have hA2:Hid ((qs.length+1)*144<=140737488355328):=hid (by omega);have hA3:Hid (∀ob,w.heap.size<=(W2.alloc ob).heap.size):=hid (λob=>by simp;omega);have yc:Hid (∀ob,(W2.alloc ob).heap.size=W2.heap.size+1):=hid (λob=>by simp);have hE1:Hid ((am+1)<=s.size):=hid (by omega);have hE2:Hid (qs.length+1<=(am+1)):=hid (by omega);have gy:Hid (s.size-(am+1)<gk):=hid (by have:=gq.out;omega);subst hW2;go_wp2_with (at_builtin;refine wpList_append_lies _ (by rfl) _ _ 194 (by rfl) w.heap.size 196 i0 (.agg #[.int .i64 0,.string ⟨#[]⟩,.int .i64 0,.int .i64 0,.int .i64 0,.string ⟨#[]⟩,.string ⟨#[]⟩,.int .i64 0,.slice none 0 0,.int .u8 0,.int .i64 0,.int .i64 0,.bool false,.bool false,.bool false,.bool false]) 16 144 underlying194 hi' hi0 hi1 hi2 (by rfl) (by decide) (.slice a' qs.length cap') qs.length (za9 qs) (by rfl) (hown.out _ _ (jg.out)) ⟨wr.heap.size+1,0,none⟩ 1 1 [.int .i64 1,.string ⟨#[]⟩,.int .i64 0,.int .i64 12,.int .i64 0,.string ad,.string ⟨#[]⟩,.int .i64 0,.slice (some ⟨wr.heap.size,0,none⟩) 1 1,.int .u8 0,.int .i64 0,.int .i64 0,.bool false,.bool false,.bool false,.bool false] (by rfl) (by rfl) hnew.out hone.out (by decide) hA1.out hA2.out (hA3.out _) (wr.heap.size+1+1) ((yc.out _).trans (by rw[qm.out])) ?_)
   intro g' dh w2 hown1 hgrow hat qp;have hR:=hid (hres.out _ g' dh w2 hown1 hgrow (by rcases hat with h|h;exact .inl h;exact .inr (by rw[qm.out];exact h)))
   clear hown1 hgrow hat qp;go_wp2;refine Handed.intro (s.size-(am+1)) gy.out (hJ _ _ _ ⟨(am+1),qs.length+1,dh,some ⟨g',0,none⟩,hE1.out,rfl,⟨rfl,rfl,rfl,rfl,rfl⟩,hE2.out,hid (by obtain⟨q2,h1,h2⟩:=hR.out;exact⟨q2,h1.symm,h2⟩)⟩)
  case false=>
  have n4:Hid (¬(c=60/\0<ang t i)):=hid (λh=>by
   have:=jm.out;rw[decide_eq_true h.1,<-kg.out,decide_eq_true h.2] at this;cases this)
  clear jm;obtain⟨b5,hb5⟩:∃x:Bool,decide (c=10)=x:=⟨_,rfl⟩;have ny:=hid hb5;clear hb5;go_upto_region 28 with fail
  go_cut [151] from 152 to 155 (λsx wx=>sx=.bool b5/\wr=wx)
  case first=>
   have e1:((c.toNat:Int) == 10)=b5:=by
    rw[<-ny.out,Bool.eq_iff_iff,beq_iff_eq,decide_eq_true_iff,<-Qk];exact⟨λh=>by show c.toNat=10;omega,λh=>by have h2:c.toNat=10:=h;omega⟩
   go_wp2;go_meet;exact⟨rfl,rfl⟩
  case rest=>
  obtain⟨rfl,rfl⟩:=hcut;cases b5
  case true=>
   have hck:Hid (c=10):=hid (of_decide_eq_true ny.out);obtain⟨sn,hsn⟩:=Qyy (spB t i);have hsq:sn<=qs.length:=by rw[<-hsn];exact dx.out.sp
   have hsf:=zxa t i (by rw[htl.out];omega);rw[hsn] at hsf;obtain⟨hsni,pz,hsend⟩:=hsf;have qj:=hid pz;have qh:=hid hsend;have hsnH:=hid hsn;obtain⟨m0,hm0⟩:=Qyy (qs.length-sn);have hm0H:=hid hm0;have lq:m0<=qs.length:=by omega
   obtain⟨kd,hkd⟩:∃kd:Int,(if 2<=sn then 10 else 9)=kd:=⟨_,rfl⟩
   have mh:=hid hkd;have bg:Hid (zgu t (qs.map Prod.fst) i ((qs.map Prod.fst).take m0++[zh4 kd []]) (i+1)):=hid ⟨c,hgc.out,by rw[if_neg n1.out,if_neg n2.out,if_neg n3.out,if_neg n4.out,if_pos hck.out,hsn,List.length_map,hm0,hkd];exact⟨rfl,rfl⟩⟩;have qz:Hid (spB t (i+1)=0):=hid (ze5 t i c hgc.out (by rw[hck.out];decide));have hwli:IntKind.i64.wrap ((i:Int)-1)=(i:Int)-1:=by rw[IntKind.wrap_i64];omega
   have hwlm:IntKind.i64.wrap ((qs.length:Int)-(sn:Int))=(m0:Int):=by rw[IntKind.wrap_i64];omega
   clear hsn pz hsend hm0 hkd yg;go_upto_region 30 with fail
   refine wp_loop_ghost_k (λk2 ac wx=>∃n:Nat,n<=sn/\k2=sn-n/\z3w s (.slice a' qs.length cap') (.int .i64 (i:Nat)) (.int .i64 (n:Nat)) ac/\wr=wx) sn ⟨0,Qt _,rfl,⟨rfl,rfl,rfl,rfl,rfl,rfl⟩,rfl⟩ ?_;rintro k2 ac wx⟨n,hn,hk2,qb,rfl⟩ J2 K2 hJ2 hK2;obtain⟨u2,rfl⟩:=qb.out;clear qb;by_cases hnl:n<sn
   ·obtain⟨m,hm⟩:=Qyy (i-1-n);have hms:m<s.size:=(by omega);have h32:s[m]=32:=by
     have h1:=qj.out n hnl;rw[hm,<-jl.out,S.zad s m hms] at h1;exact Qy h1
    have e1:((s[m].toNat:Int) == 32)=true:=(by rw[h32];rfl);have hwm:IntKind.i64.wrap ((i:Int)-1-(n:Int))=(m:Int):=(by rw[IntKind.wrap_i64];omega);have yt:(i:Int)-1-(n:Int)=(m:Int):=(by omega);have hni:(n:Int)<(i:Int):=(by omega);have zq:(0:Int)<=(m:Int):=(by omega);have hmI:(m:Int)<(s.size:Int):=(by omega);have hF1:Hid (sn-(n+1)<k2):=hid (by omega);have hF2:Hid (n+1<=sn):=hid (by omega);clear hm h32 hk2;go_wp2;exact Handed.intro (sn-(n+1)) hF1.out (hJ2 _ _ _ ⟨n+1,hF2.out,rfl,⟨rfl,rfl,rfl,rfl,rfl,rfl⟩,rfl⟩)
   ·have hne:n=sn:=(by omega);subst hne;clear hk2;by_cases hni:n<i
    ·obtain⟨m,hm⟩:=Qyy (i-1-n);have hms:m<s.size:=(by omega);have h32:s[m]≠32:=by
      intro h;have h1:=qh.out hni;rw[hm,<-jl.out,S.zad s m hms,h] at h1;exact h1 rfl
     have e1:((s[m].toNat:Int) == 32)=false:=by
      rw[Qe];intro h;exact h32 (Qk.1 (by show s[m].toNat=32;omega))
     have hwm:IntKind.i64.wrap ((i:Int)-1-(n:Int))=(m:Int):=(by rw[IntKind.wrap_i64];omega);have yt:(i:Int)-1-(n:Int)=(m:Int):=(by omega);have hni':(n:Int)<(i:Int):=(by omega);have zq:(0:Int)<=(m:Int):=(by omega);have hmI:(m:Int)<(s.size:Int):=(by omega);clear hm h32;go_upto_if 171 with fail
     go_cut [11] from 156 to 172 (λsx wx=>sx=.int .i64 kd/\wr=wx)
     case first=>
      by_cases h2:2<=n
      ·have h2':(2:Int)<=(n:Int):=(by omega);have he:Hid (kd=10):=hid (by rw[<-mh.out,if_pos h2]);go_wp2;go_meet;exact⟨by rw[he.out],rfl⟩
      ·have h2':¬(2:Int)<=(n:Int):=(by omega);have he:Hid (kd=9):=hid (by rw[<-mh.out,if_neg h2]);go_wp2;go_meet;exact⟨by rw[he.out],rfl⟩
     case rest=>
     obtain⟨rfl,rfl⟩:=hcut;have hone:Hid (∀v∈([.int .i64 1,.string ⟨#[]⟩,.int .i64 0,.int .i64 kd,.int .i64 0,.string ⟨#[]⟩,.string ⟨#[]⟩,.int .i64 0,.slice none 0 0,.int .u8 0,.int .i64 0,.int .i64 0,.bool false,.bool false,.bool false,.bool false]:List Value),v.oneCell'=true):=hid (by
      intro v hv;simp only[List.mem_cons,List.not_mem_nil,or_false] at hv;rcases hv with rfl|rfl|rfl|rfl|rfl|rfl|rfl|rfl|rfl|rfl|rfl|rfl|rfl|rfl|rfl|rfl<;>rfl)
     have hnew:Hid (∀jj v,([.int .i64 1,.string ⟨#[]⟩,.int .i64 0,.int .i64 kd,.int .i64 0,.string ⟨#[]⟩,.string ⟨#[]⟩,.int .i64 0,.slice none 0 0,.int .u8 0,.int .i64 0,.int .i64 0,.bool false,.bool false,.bool false,.bool false]:List Value)[jj]?=some v->(wr.alloc (.cells #[.int .i64 1,.string ⟨#[]⟩,.int .i64 0,.int .i64 kd,.int .i64 0,.string ⟨#[]⟩,.string ⟨#[]⟩,.int .i64 0,.slice none 0 0,.int .u8 0,.int .i64 0,.int .i64 0,.bool false,.bool false,.bool false,.bool false] 196)).cell? ((⟨wr.heap.size,0,none⟩:Addr).add jj)=some v):=hid (λjj v hj=>World.news_of_block (za1 _ _) jj v (by exact hj));have hres:Hid (∀ob v w2,w2.ownsRow (wr.heap.size+1) 196 16 v (m0+1) (za9 (qs.take m0)++[.int .i64 1,.string ⟨#[]⟩,.int .i64 0,.int .i64 kd,.int .i64 0,.string ⟨#[]⟩,.string ⟨#[]⟩,.int .i64 0,.slice none 0 0,.int .u8 0,.int .i64 0,.int .i64 0,.bool false,.bool false,.bool false,.bool false])->(wr.alloc ob).grownBy w2 none->∃jd g dh,v=.slice (some ⟨g,0,none⟩) (m0+1) dh/\jd.length=m0+1/\WL w t jd (i+1) (some ⟨g,0,none⟩) dh w2):=hid (λob v w2 h1 h2=>dx.out.line (np:=zh4 kd []) bg.out lq rfl rfl rfl qz.out (by have e:(wr.alloc ob).heap.size=wr.heap.size+1:=(by simp);rw[e];exact h1) h2);have hlo:Hid ((za9 (qs.take m0)).length=m0*16):=hid (by rw[zc5,Ql,Nat.min_eq_left lq]);have hnone:Hid (a'=none->m0=0/\m0=0):=hid (λe=>by
      subst e;rcases dx.out.own.own.2 with ⟨_,h2⟩|⟨_,_,_,h1,_⟩
      ·exact⟨by omega,by omega⟩
      ·cases h1)
     have holds:Hid (∀ob b,a'=some b->∀j u,(za9 (qs.take m0))[j]?=some u->(wr.alloc ob).cell? (b.add j)=some u):=hid (λob b e j y hj=>by
      subst e;have hbX:Below wr.heap.size wr (wr.alloc ob):=(Below.refl _ _).alloc (Qc _) ob;rcases (dx.out.own.after hbX).row with h|⟨b',o',h1,h2,h3⟩
      ·rw[h] at hj;simp[za9] at hj
      ·injection h1 with h1
       subst h1;refine PRow.news (λk x hk jj z hz=>h3 k x ?_ jj z hz) j y hj;rw[List.getElem?_take] at hk;split at hk
       ·exact hk
       ·cases hk)
     have hA1:Hid (m0+1<=maxLen):=hid (by unfold maxLen;omega);have hA2:Hid ((m0+1)*144<=140737488355328):=hid (by omega);have hE1:Hid (i+1<=s.size):=hid (by omega);have hE2:Hid (m0+1<=i+1):=hid (by omega);have gy:Hid (s.size-(i+1)<gk):=hid (by have:=gq.out;omega);have hm1:(0:Int)<=(m0:Int):=(by omega);have hm2:(m0:Int)<=(qs.length:Int):=(by omega);have hqc:qs.length<=cap':=by
      rcases dx.out.own.own.2 with ⟨h1,h2⟩|⟨_,_,_,h1,_,_,h4,_⟩
      ·omega
      ·injection h1 with _ _ h3;omega
     have hm3:(m0:Int)<=(cap':Int):=(by omega);have hlm:Hid (m0<m0+1):=hid (by omega);cases a' with
     | none=>
      go_wp2_with (at_builtin;refine wpList_append_grows _ (by rfl) _ _ 194 (by rfl) 196 i0 (.agg #[.int .i64 0,.string ⟨#[]⟩,.int .i64 0,.int .i64 0,.int .i64 0,.string ⟨#[]⟩,.string ⟨#[]⟩,.int .i64 0,.slice none 0 0,.int .u8 0,.int .i64 0,.int .i64 0,.bool false,.bool false,.bool false,.bool false]) 16 144 underlying194 hi' hi0 hi1 hi2 (by rfl) (by decide) none m0 m0 (za9 (qs.take m0)) (by rfl) hnone.out hlo.out (holds.out _) ⟨wr.heap.size,0,none⟩ 1 1 [.int .i64 1,.string ⟨#[]⟩,.int .i64 0,.int .i64 kd,.int .i64 0,.string ⟨#[]⟩,.string ⟨#[]⟩,.int .i64 0,.slice none 0 0,.int .u8 0,.int .i64 0,.int .i64 0,.bool false,.bool false,.bool false,.bool false] (by rfl) (by rfl) hnew.out hone.out hlm.out hA1.out hA2.out ?_)
      intro v w2 hown1 hgrow;obtain⟨q2,g,dh,rfl,h1,h2⟩:=hres.out _ v w2 hown1 hgrow;have hR:=hid (And.intro h1 h2);clear hown1 hgrow h1 h2;go_wp2;exact Handed.intro (s.size-(i+1)) gy.out (hJ _ _ _ ⟨i+1,m0+1,dh,some ⟨g,0,none⟩,hE1.out,rfl,⟨rfl,rfl,rfl,rfl,rfl⟩,hE2.out,hid ⟨q2,hR.out.1.symm,hR.out.2⟩⟩)
     | some ad=>
      obtain⟨g0,had⟩:∃g0,ad=⟨g0,0,none⟩:=by
       rcases dx.out.own.own.2 with ⟨h1,_⟩|⟨g,_,_,h1,_⟩
       ·cases h1
       ·injection h1 with h1;injection h1 with h1;exact⟨g,h1⟩
      subst had;go_wp2_with (at_builtin;refine wpList_append_grows _ (by rfl) _ _ 194 (by rfl) 196 i0 (.agg #[.int .i64 0,.string ⟨#[]⟩,.int .i64 0,.int .i64 0,.int .i64 0,.string ⟨#[]⟩,.string ⟨#[]⟩,.int .i64 0,.slice none 0 0,.int .u8 0,.int .i64 0,.int .i64 0,.bool false,.bool false,.bool false,.bool false]) 16 144 underlying194 hi' hi0 hi1 hi2 (by rfl) (by decide) (some ⟨g0,0,none⟩) m0 m0 (za9 (qs.take m0)) (by rfl) (λh=>by cases h) hlo.out (holds.out _) ⟨wr.heap.size,0,none⟩ 1 1 [.int .i64 1,.string ⟨#[]⟩,.int .i64 0,.int .i64 kd,.int .i64 0,.string ⟨#[]⟩,.string ⟨#[]⟩,.int .i64 0,.slice none 0 0,.int .u8 0,.int .i64 0,.int .i64 0,.bool false,.bool false,.bool false,.bool false] (by rfl) (by rfl) hnew.out hone.out hlm.out hA1.out hA2.out ?_)
      intro v w2 hown1 hgrow;obtain⟨q2,g,dh,rfl,h1,h2⟩:=hres.out _ v w2 hown1 hgrow;have hR:=hid (And.intro h1 h2);clear hown1 hgrow h1 h2;go_wp2;exact Handed.intro (s.size-(i+1)) gy.out (hJ _ _ _ ⟨i+1,m0+1,dh,some ⟨g,0,none⟩,hE1.out,rfl,⟨rfl,rfl,rfl,rfl,rfl⟩,hE2.out,hid ⟨q2,hR.out.1.symm,hR.out.2⟩⟩)
    ·have hni':¬(n:Int)<(i:Int):=(by omega);go_upto_if 171 with fail
     go_cut [11] from 156 to 172 (λsx wx=>sx=.int .i64 kd/\wr=wx)
     case first=>
      by_cases h2:2<=n
      ·have h2':(2:Int)<=(n:Int):=(by omega);have he:Hid (kd=10):=hid (by rw[<-mh.out,if_pos h2]);go_wp2;go_meet;exact⟨by rw[he.out],rfl⟩
      ·have h2':¬(2:Int)<=(n:Int):=(by omega);have he:Hid (kd=9):=hid (by rw[<-mh.out,if_neg h2]);go_wp2;go_meet;exact⟨by rw[he.out],rfl⟩
     case rest=>
     obtain⟨rfl,rfl⟩:=hcut;have hone:Hid (∀v∈([.int .i64 1,.string ⟨#[]⟩,.int .i64 0,.int .i64 kd,.int .i64 0,.string ⟨#[]⟩,.string ⟨#[]⟩,.int .i64 0,.slice none 0 0,.int .u8 0,.int .i64 0,.int .i64 0,.bool false,.bool false,.bool false,.bool false]:List Value),v.oneCell'=true):=hid (by
      intro v hv;simp only[List.mem_cons,List.not_mem_nil,or_false] at hv;rcases hv with rfl|rfl|rfl|rfl|rfl|rfl|rfl|rfl|rfl|rfl|rfl|rfl|rfl|rfl|rfl|rfl<;>rfl)
     have hnew:Hid (∀jj v,([.int .i64 1,.string ⟨#[]⟩,.int .i64 0,.int .i64 kd,.int .i64 0,.string ⟨#[]⟩,.string ⟨#[]⟩,.int .i64 0,.slice none 0 0,.int .u8 0,.int .i64 0,.int .i64 0,.bool false,.bool false,.bool false,.bool false]:List Value)[jj]?=some v->(wr.alloc (.cells #[.int .i64 1,.string ⟨#[]⟩,.int .i64 0,.int .i64 kd,.int .i64 0,.string ⟨#[]⟩,.string ⟨#[]⟩,.int .i64 0,.slice none 0 0,.int .u8 0,.int .i64 0,.int .i64 0,.bool false,.bool false,.bool false,.bool false] 196)).cell? ((⟨wr.heap.size,0,none⟩:Addr).add jj)=some v):=hid (λjj v hj=>World.news_of_block (za1 _ _) jj v (by exact hj));have hres:Hid (∀ob v w2,w2.ownsRow (wr.heap.size+1) 196 16 v (m0+1) (za9 (qs.take m0)++[.int .i64 1,.string ⟨#[]⟩,.int .i64 0,.int .i64 kd,.int .i64 0,.string ⟨#[]⟩,.string ⟨#[]⟩,.int .i64 0,.slice none 0 0,.int .u8 0,.int .i64 0,.int .i64 0,.bool false,.bool false,.bool false,.bool false])->(wr.alloc ob).grownBy w2 none->∃jd g dh,v=.slice (some ⟨g,0,none⟩) (m0+1) dh/\jd.length=m0+1/\WL w t jd (i+1) (some ⟨g,0,none⟩) dh w2):=hid (λob v w2 h1 h2=>dx.out.line (np:=zh4 kd []) bg.out lq rfl rfl rfl qz.out (by have e:(wr.alloc ob).heap.size=wr.heap.size+1:=(by simp);rw[e];exact h1) h2);have hlo:Hid ((za9 (qs.take m0)).length=m0*16):=hid (by rw[zc5,Ql,Nat.min_eq_left lq]);have hnone:Hid (a'=none->m0=0/\m0=0):=hid (λe=>by
      subst e;rcases dx.out.own.own.2 with ⟨_,h2⟩|⟨_,_,_,h1,_⟩
      ·exact⟨by omega,by omega⟩
      ·cases h1)
     have holds:Hid (∀ob b,a'=some b->∀j u,(za9 (qs.take m0))[j]?=some u->(wr.alloc ob).cell? (b.add j)=some u):=hid (λob b e j y hj=>by
      subst e;have hbX:Below wr.heap.size wr (wr.alloc ob):=(Below.refl _ _).alloc (Qc _) ob;rcases (dx.out.own.after hbX).row with h|⟨b',o',h1,h2,h3⟩
      ·rw[h] at hj;simp[za9] at hj
      ·injection h1 with h1
       subst h1;refine PRow.news (λk x hk jj z hz=>h3 k x ?_ jj z hz) j y hj;rw[List.getElem?_take] at hk;split at hk
       ·exact hk
       ·cases hk)
     have hA1:Hid (m0+1<=maxLen):=hid (by unfold maxLen;omega);have hA2:Hid ((m0+1)*144<=140737488355328):=hid (by omega);have hE1:Hid (i+1<=s.size):=hid (by omega);have hE2:Hid (m0+1<=i+1):=hid (by omega);have gy:Hid (s.size-(i+1)<gk):=hid (by have:=gq.out;omega);have hm1:(0:Int)<=(m0:Int):=(by omega);have hm2:(m0:Int)<=(qs.length:Int):=(by omega);have hqc:qs.length<=cap':=by
      rcases dx.out.own.own.2 with ⟨h1,h2⟩|⟨_,_,_,h1,_,_,h4,_⟩
      ·omega
      ·injection h1 with _ _ h3;omega
     have hm3:(m0:Int)<=(cap':Int):=(by omega);have hlm:Hid (m0<m0+1):=hid (by omega);cases a' with
     | none=>
      go_wp2_with (at_builtin;refine wpList_append_grows _ (by rfl) _ _ 194 (by rfl) 196 i0 (.agg #[.int .i64 0,.string ⟨#[]⟩,.int .i64 0,.int .i64 0,.int .i64 0,.string ⟨#[]⟩,.string ⟨#[]⟩,.int .i64 0,.slice none 0 0,.int .u8 0,.int .i64 0,.int .i64 0,.bool false,.bool false,.bool false,.bool false]) 16 144 underlying194 hi' hi0 hi1 hi2 (by rfl) (by decide) none m0 m0 (za9 (qs.take m0)) (by rfl) hnone.out hlo.out (holds.out _) ⟨wr.heap.size,0,none⟩ 1 1 [.int .i64 1,.string ⟨#[]⟩,.int .i64 0,.int .i64 kd,.int .i64 0,.string ⟨#[]⟩,.string ⟨#[]⟩,.int .i64 0,.slice none 0 0,.int .u8 0,.int .i64 0,.int .i64 0,.bool false,.bool false,.bool false,.bool false] (by rfl) (by rfl) hnew.out hone.out hlm.out hA1.out hA2.out ?_)
      intro v w2 hown1 hgrow;obtain⟨q2,g,dh,rfl,h1,h2⟩:=hres.out _ v w2 hown1 hgrow;have hR:=hid (And.intro h1 h2);clear hown1 hgrow h1 h2;go_wp2;exact Handed.intro (s.size-(i+1)) gy.out (hJ _ _ _ ⟨i+1,m0+1,dh,some ⟨g,0,none⟩,hE1.out,rfl,⟨rfl,rfl,rfl,rfl,rfl⟩,hE2.out,hid ⟨q2,hR.out.1.symm,hR.out.2⟩⟩)
     | some ad=>
      obtain⟨g0,had⟩:∃g0,ad=⟨g0,0,none⟩:=by
       rcases dx.out.own.own.2 with ⟨h1,_⟩|⟨g,_,_,h1,_⟩
       ·cases h1
       ·injection h1 with h1;injection h1 with h1;exact⟨g,h1⟩
      subst had;go_wp2_with (at_builtin;refine wpList_append_grows _ (by rfl) _ _ 194 (by rfl) 196 i0 (.agg #[.int .i64 0,.string ⟨#[]⟩,.int .i64 0,.int .i64 0,.int .i64 0,.string ⟨#[]⟩,.string ⟨#[]⟩,.int .i64 0,.slice none 0 0,.int .u8 0,.int .i64 0,.int .i64 0,.bool false,.bool false,.bool false,.bool false]) 16 144 underlying194 hi' hi0 hi1 hi2 (by rfl) (by decide) (some ⟨g0,0,none⟩) m0 m0 (za9 (qs.take m0)) (by rfl) (λh=>by cases h) hlo.out (holds.out _) ⟨wr.heap.size,0,none⟩ 1 1 [.int .i64 1,.string ⟨#[]⟩,.int .i64 0,.int .i64 kd,.int .i64 0,.string ⟨#[]⟩,.string ⟨#[]⟩,.int .i64 0,.slice none 0 0,.int .u8 0,.int .i64 0,.int .i64 0,.bool false,.bool false,.bool false,.bool false] (by rfl) (by rfl) hnew.out hone.out hlm.out hA1.out hA2.out ?_)
      intro v w2 hown1 hgrow;obtain⟨q2,g,dh,rfl,h1,h2⟩:=hres.out _ v w2 hown1 hgrow;have hR:=hid (And.intro h1 h2);clear hown1 hgrow h1 h2;go_wp2;exact Handed.intro (s.size-(i+1)) gy.out (hJ _ _ _ ⟨i+1,m0+1,dh,some ⟨g,0,none⟩,hE1.out,rfl,⟨rfl,rfl,rfl,rfl,rfl⟩,hE2.out,hid ⟨q2,hR.out.1.symm,hR.out.2⟩⟩)
  case false=>
  have n5:Hid (¬c=10):=hid (of_decide_eq_false ny.out);clear ny;obtain⟨b6,hb6⟩:∃b6:Bool,decide (c=42\/c=95)=b6:=⟨_,rfl⟩;have jy:=hid hb6;clear hb6;go_upto_region 37 with fail
  go_cut [190] from 191 to 200 (λsx wx=>sx=.bool b6/\wr=wx)
  case first=>
   by_cases h42:c=42
   ·have e1:((c.toNat:Int) == 42)=true:=(by rw[h42];rfl);have he:Hid (b6=true):=hid (by rw[<-jy.out,decide_eq_true (.inl h42)]);clear h42;go_wp2;go_meet;exact⟨by rw[he.out],rfl⟩
   ·have e1:((c.toNat:Int) == 42)=false:=by
     rw[Qe];intro h;exact h42 (Qk.1 (by show c.toNat=42;omega))
    have e2:((c.toNat:Int) == 95)=b6:=by
     rw[<-jy.out,Bool.eq_iff_iff,beq_iff_eq,decide_eq_true_iff];exact⟨λh=>.inr (Qk.1 (by show c.toNat=95;omega)),λh=>by rcases h with h|h;exact absurd h h42;rw[h];rfl⟩
    clear h42;go_wp2;go_meet;exact⟨rfl,rfl⟩
  case rest=>
  obtain⟨rfl,rfl⟩:=hcut;cases b6
  case true=>
   have hck:Hid (c=42\/c=95):=hid (of_decide_eq_true jy.out);obtain⟨sm,hsm⟩:=Qyy (S.same (t.drop i));obtain⟨ro,hro⟩:=Qyy (S.zc0 t i sm);obtain⟨rc,hrc⟩:=Qyy (S.zbg t i sm);have zk:=zgd s i hlt;rw[jl.out,hsm] at zk;have hrun:Hid (pt16 (runR t i) (.slice none 0 0)=[.int .i64 2,.string ⟨#[]⟩,.int .i64 0,.int .i64 0,.int .i64 0,.string ⟨#[]⟩,.string ⟨#[]⟩,.int .i64 0,.slice none 0 0,.int .u8 (c.toNat:Int),.int .i64 (sm:Nat),.int .i64 (sm:Nat),.bool ro,.bool rc,.bool false,.bool false]):=hid (by
    unfold runR;rw[hsm,hro,hrc,hgc.out];rfl)
   have hRn:Hid (Calls prog 138 #[.string s,.int .i64 (i:Nat)] wr λe w'=>e=.returned (.agg #[.int .i64 2,.string ⟨#[]⟩,.int .i64 0,.int .i64 0,.int .i64 0,.string ⟨#[]⟩,.string ⟨#[]⟩,.int .i64 0,.slice none 0 0,.int .u8 (c.toNat:Int),.int .i64 (sm:Nat),.int .i64 (sm:Nat),.bool ro,.bool rc,.bool false,.bool false])/\Below wr.heap.size wr w'):=hid ((zzn s i wr hs hlt (by rw[hc];exact hck.out)).mono (λe w' ⟨h1,h2⟩=>⟨by rw[h1,jl.out];unfold zow;rw[hrun.out],h2⟩));have hlast:Hid (t[i+sm-1]?=some c):=hid (by
    have h1:t.drop i=c::t.drop (i+1):=by
     obtain⟨h2,h3⟩:=Qb.1 hgc.out;rw[Qm h2,h3]
    have h4:S.cnt c (t.drop i)=sm:=(by rw[<-hsm,h1];rfl);have h5:=zmk c (t.drop i) (sm-1) (by omega);rw[Qn] at h5;rw[<-h5];congr 1;omega)
   have bg:Hid (zgu t (qs.map Prod.fst) i (qs.map Prod.fst++[runR t i]) (i+sm)):=hid ⟨c,hgc.out,by rw[if_neg n1.out,if_neg n2.out,if_neg n3.out,if_neg n4.out,if_neg n5.out,if_pos hck.out];exact⟨rfl,by rw[hsm]⟩⟩;have dw:Hid (spB t (i+sm)<=qs.length+1):=hid (by
    have:=ze5 t (i+sm-1) c hlast.out (by rcases hck.out with h|h<;>(rw[h];decide))
    rw[Nat.sub_add_cancel (by omega)] at this;omega)
   have tq:=hid hsm;clear hsm hro hrc;go_wp2_with (fail);refine hRn.out.mono ?_;rintro e w1⟨rfl,hb1⟩;obtain⟨W2,hW2⟩:=Qzz (w1.alloc (.cells #[.int .i64 2,.string ⟨#[]⟩,.int .i64 0,.int .i64 0,.int .i64 0,.string ⟨#[]⟩,.string ⟨#[]⟩,.int .i64 0,.slice none 0 0,.int .u8 (c.toNat:Int),.int .i64 (sm:Nat),.int .i64 (sm:Nat),.bool ro,.bool rc,.bool false,.bool false] 196));have hb2:Below w1.heap.size w1 W2:=by rw[hW2];exact(Below.refl _ _).alloc (Qc _) _
   have hx2:W2.heap[w1.heap.size]?=some (.cells #[.int .i64 2,.string ⟨#[]⟩,.int .i64 0,.int .i64 0,.int .i64 0,.string ⟨#[]⟩,.string ⟨#[]⟩,.int .i64 0,.slice none 0 0,.int .u8 (c.toNat:Int),.int .i64 (sm:Nat),.int .i64 (sm:Nat),.bool ro,.bool rc,.bool false,.bool false] 196 (0,0)):=by rw[hW2];exact za1 _ _
   have hs2:W2.heap.size=w1.heap.size+1:=by rw[hW2];simp
   have xg:Hid (Below wr.heap.size wr W2):=hid (hb1.trans (hb2.mono hb1.size));have kr:wr.heap.size<=w1.heap.size:=hb1.size;have yw:w1.heap.size<W2.heap.size:=by omega
   have q0:=za0 hx2 0 _ rfl;have q1:=za0 hx2 1 _ rfl;have q2:=za0 hx2 2 _ rfl;have q3:=za0 hx2 3 _ rfl;have q4:=za0 hx2 4 _ rfl;have q5:=za0 hx2 5 _ rfl;have q6:=za0 hx2 6 _ rfl;have q7:=za0 hx2 7 _ rfl;have q8:=za0 hx2 8 _ rfl;have q9:=za0 hx2 9 _ rfl;have q10:=za0 hx2 10 _ rfl;have q11:=za0 hx2 11 _ rfl;have q12:=za0 hx2 12 _ rfl;have q13:=za0 hx2 13 _ rfl;have q14:=za0 hx2 14 _ rfl;have q15:=za0 hx2 15 _ rfl;have hW2H:=hid hW2;have yj:=hid hx2;clear hW2 hb2 hx2 hs2 hb1;go_upto_region 39 with fail
   rw[<-hW2H.out];have hone:Hid (∀v∈([.int .i64 2,.string ⟨#[]⟩,.int .i64 0,.int .i64 0,.int .i64 0,.string ⟨#[]⟩,.string ⟨#[]⟩,.int .i64 0,.slice none 0 0,.int .u8 (c.toNat:Int),.int .i64 (sm:Nat),.int .i64 (sm:Nat),.bool ro,.bool rc,.bool false,.bool false]:List Value),v.oneCell'=true):=hid (by
    intro v hv;simp only[List.mem_cons,List.not_mem_nil,or_false] at hv;rcases hv with rfl|rfl|rfl|rfl|rfl|rfl|rfl|rfl|rfl|rfl|rfl|rfl|rfl|rfl|rfl|rfl<;>rfl)
   have hnew:Hid (∀jj v,([.int .i64 2,.string ⟨#[]⟩,.int .i64 0,.int .i64 0,.int .i64 0,.string ⟨#[]⟩,.string ⟨#[]⟩,.int .i64 0,.slice none 0 0,.int .u8 (c.toNat:Int),.int .i64 (sm:Nat),.int .i64 (sm:Nat),.bool ro,.bool rc,.bool false,.bool false]:List Value)[jj]?=some v->(W2.alloc (.cells #[.int .i64 2,.string ⟨#[]⟩,.int .i64 0,.int .i64 0,.int .i64 0,.string ⟨#[]⟩,.string ⟨#[]⟩,.int .i64 0,.slice none 0 0,.int .u8 (c.toNat:Int),.int .i64 (sm:Nat),.int .i64 (sm:Nat),.bool ro,.bool rc,.bool false,.bool false] 196)).cell? ((⟨W2.heap.size,0,none⟩:Addr).add jj)=some v):=hid (λjj v hj=>World.news_of_block (za1 _ _) jj v (by exact hj));have hres:Hid (∀ob g' dh w2,w2.ownsRow w.heap.size 196 16 (.slice (some ⟨g',0,none⟩) (qs.length+1) dh) (qs.length+1) (za9 qs++[.int .i64 2,.string ⟨#[]⟩,.int .i64 0,.int .i64 0,.int .i64 0,.string ⟨#[]⟩,.string ⟨#[]⟩,.int .i64 0,.slice none 0 0,.int .u8 (c.toNat:Int),.int .i64 (sm:Nat),.int .i64 (sm:Nat),.bool ro,.bool rc,.bool false,.bool false])->(W2.alloc ob).grownBy w2 (Value.slice a' qs.length cap').ownBlock->((Value.slice a' qs.length cap').ownBlock=some g'\/g'=W2.heap.size+1)->∃jd,jd.length=qs.length+1/\WL w t jd (i+sm) (some ⟨g',0,none⟩) dh w2):=hid (λob g' dh w2 h1 h2 h3=>by
    rw[<-hrun.out] at h1;exact dx.out.push (np:=runR t i) (kv:=.slice none 0 0) (bg.out) (by omega) (by show (0:Nat)+S.same (t.drop i)<=_;rw[tq.out];omega) (by show S.same (t.drop i)<=_;rw[tq.out];omega) (dw.out) (xg.out) (.nil) h1 h2 h3)
   have jh:w.heap.size<=W2.heap.size:=by omega
   have hA1:Hid (qs.length+1<=maxLen):=hid (by unfold maxLen;omega);have hA2:Hid ((qs.length+1)*144<=140737488355328):=hid (by omega);have hA3:Hid (∀ob,w.heap.size<=(W2.alloc ob).heap.size):=hid (λob=>by simp;omega);have yc:Hid (∀ob,(W2.alloc ob).heap.size=W2.heap.size+1):=hid (λob=>by simp);have hE1:Hid ((i+sm)<=s.size):=hid (by omega);have hE2:Hid (qs.length+1<=(i+sm)):=hid (by omega);have gy:Hid (s.size-(i+sm)<gk):=hid (by have:=gq.out;omega);go_wp2_with (at_builtin;refine wpList_append_lies _ (by rfl) _ _ 194 (by rfl) w.heap.size 196 i0 (.agg #[.int .i64 0,.string ⟨#[]⟩,.int .i64 0,.int .i64 0,.int .i64 0,.string ⟨#[]⟩,.string ⟨#[]⟩,.int .i64 0,.slice none 0 0,.int .u8 0,.int .i64 0,.int .i64 0,.bool false,.bool false,.bool false,.bool false]) 16 144 underlying194 hi' hi0 hi1 hi2 (by rfl) (by decide) (.slice a' qs.length cap') qs.length (za9 qs) (by rfl) (hown.out W2 _ (xg.out)) ⟨W2.heap.size,0,none⟩ 1 1 [.int .i64 2,.string ⟨#[]⟩,.int .i64 0,.int .i64 0,.int .i64 0,.string ⟨#[]⟩,.string ⟨#[]⟩,.int .i64 0,.slice none 0 0,.int .u8 (c.toNat:Int),.int .i64 (sm:Nat),.int .i64 (sm:Nat),.bool ro,.bool rc,.bool false,.bool false] (by rfl) (by rfl) hnew.out hone.out (by decide) hA1.out hA2.out (hA3.out _) (W2.heap.size+1) (yc.out _) ?_)
   intro g' dh w2 hown1 hgrow hat qp;have hR:=hid (hres.out _ g' dh w2 hown1 hgrow hat);have hN10:w2.cell? ⟨w1.heap.size,10,none⟩=some (.int .i64 (sm:Nat)):=by
    have hx9:w2.heap[w1.heap.size]?=_:=(hgrow.block w1.heap.size (by have:=yc.out (.cells #[.int .i64 2,.string ⟨#[]⟩,.int .i64 0,.int .i64 0,.int .i64 0,.string ⟨#[]⟩,.string ⟨#[]⟩,.int .i64 0,.slice none 0 0,.int .u8 (c.toNat:Int),.int .i64 (sm:Nat),.int .i64 (sm:Nat),.bool ro,.bool rc,.bool false,.bool false] 196);omega) (λe=>by have:=(dx.out.own.own.lt _ e.symm).2;omega)).trans ((((Below.refl W2.heap.size W2).alloc (Qc _) _).block w1.heap.size yw).trans yj.out);exact za0 hx9 10 _ rfl
   have hw12s:w1.heap.size<w2.heap.size:=by have:=hgrow.size;have:=yc.out (.cells #[.int .i64 2,.string ⟨#[]⟩,.int .i64 0,.int .i64 0,.int .i64 0,.string ⟨#[]⟩,.string ⟨#[]⟩,.int .i64 0,.slice none 0 0,.int .u8 (c.toNat:Int),.int .i64 (sm:Nat),.int .i64 (sm:Nat),.bool ro,.bool rc,.bool false,.bool false] 196);omega
   have hwim:IntKind.i64.wrap ((i:Int)+(sm:Int))=(i:Int)+(sm:Int):=by rw[IntKind.wrap_i64];omega
   clear hown1 hgrow hat qp;go_wp2;refine Handed.intro (s.size-(i+sm)) gy.out (hJ _ _ _ ⟨(i+sm),qs.length+1,dh,some ⟨g',0,none⟩,hE1.out,rfl,⟨rfl,rfl,rfl,rfl,rfl⟩,hE2.out,hid (by obtain⟨q2,h1,h2⟩:=hR.out;exact⟨q2,h1.symm,h2⟩)⟩)
  case false=>
  have n6:Hid (¬(c=42\/c=95)):=hid (of_decide_eq_false jy.out);clear jy;obtain⟨b7,hb7⟩:∃x:Bool,decide (c=91)=x:=⟨_,rfl⟩;have ng:=hid hb7;clear hb7;go_upto_region 41 with fail
  go_cut [212] from 213 to 216 (λsx wx=>sx=.bool b7/\wr=wx)
  case first=>
   have e1:((c.toNat:Int) == 91)=b7:=by
    rw[<-ng.out,Bool.eq_iff_iff,beq_iff_eq,decide_eq_true_iff,<-Qk];exact⟨λh=>by show c.toNat=91;omega,λh=>by have h2:c.toNat=91:=h;omega⟩
   go_wp2;go_meet;exact⟨rfl,rfl⟩
  case rest=>
  obtain⟨rfl,rfl⟩:=hcut;cases b7
  case true=>
   have hck:Hid (c=91):=hid (of_decide_eq_true ng.out);have bg:Hid (zgu t (qs.map Prod.fst) i (qs.map Prod.fst++[zk2 [91] false]) (i+1)):=hid ⟨c,hgc.out,by rw[if_neg n1.out,if_neg n2.out,if_neg n3.out,if_neg n4.out,if_neg n5.out,if_neg n6.out,if_pos hck.out];exact⟨rfl,rfl⟩⟩;have dw:=hid (lg.out i c hgc.out (by rw[hck.out];decide));have jh:w.heap.size<=wr.heap.size:=by omega
   have hE1:Hid ((i+1)<=s.size):=hid (by omega);have hE2:Hid (qs.length+1<=(i+1)):=hid (by omega);have gy:Hid (s.size-(i+1)<gk):=hid (by have:=gq.out;omega);go_wp2_with (at_builtin;refine apPt wr (zk2 [91] false) none 0 0 (by rfl) _ _ (by rfl) w.heap.size (.slice a' qs.length cap') qs.length (za9 qs) (by rfl) (hown.out wr _ (Below.refl _ _)) (by rfl) (by omega) jh ?_)
   intro g' dh w2 hown1 hgrow hat;have hR:=hid (dx.out.push (np:=zk2 [91] false) (kv:=.slice none 0 0) (bg.out) (by omega) (by simp[zk2]) (by simp[zk2]) (dw.out) (Below.refl _ _) (.nil) hown1 hgrow hat);clear hown1 hgrow hat;go_wp2;refine Handed.intro (s.size-(i+1)) gy.out (hJ _ _ _ ⟨(i+1),qs.length+1,dh,some ⟨g',0,none⟩,hE1.out,rfl,⟨rfl,rfl,rfl,rfl,rfl⟩,hE2.out,hid (by obtain⟨q2,h1,h2⟩:=hR.out;exact⟨q2,h1.symm,h2⟩)⟩)
  case false=>
  have n7:Hid (¬c=91):=hid (of_decide_eq_false ng.out);clear ng;obtain⟨b8,hb8⟩:∃b8:Bool,(decide (c=33)&&decide (t[i+1]?=some 91))=b8:=⟨_,rfl⟩;have jw:=hid hb8;clear hb8;have e91:(nx.toList == [91])=decide (t[i+1]?=some 91):=by
   rw[zn.out];cases h:t[i+1]? with
   | none=>rw[Qw (List.getElem?_eq_none_iff.1 h)];rfl
   | some d=>
    obtain⟨h1,h2⟩:=Qb.1 h;rw[Qm h1,h2,Qz,List.take_zero];by_cases e:d=91
    ·subst e;rfl
    ·rw[decide_eq_false (by simpa using e)];simp[e]
  obtain⟨bo,hbo⟩:=Qyy (decide (t[i+1]?=some 91));rw[hbo] at e91;have zy:=hid hbo;clear hbo yg;go_upto_region 44 with fail
  go_cut [223] from 224 to 231 (λsx wx=>sx=.bool b8/\wr=wx)
  case first=>
   by_cases h33:c=33
   ·have e1:((c.toNat:Int) == 33)=true:=(by rw[h33];rfl);have he:Hid (b8=bo):=hid (by rw[<-jw.out,decide_eq_true h33,Bool.true_and,zy.out]);clear h33;go_wp2;go_meet;exact⟨by rw[he.out],rfl⟩
   ·have e1:((c.toNat:Int) == 33)=false:=by
     rw[Qe];intro h;exact h33 (Qk.1 (by show c.toNat=33;omega))
    have he:Hid (b8=false):=hid (by rw[<-jw.out,decide_eq_false h33];rfl);clear h33;go_wp2;go_meet;exact⟨by rw[he.out],rfl⟩
  case rest=>
  obtain⟨rfl,rfl⟩:=hcut;clear e91;cases b8
  case true=>
   have hcc:Hid (c=33/\t[i+1]?=some 91):=hid (by
    have:=jw.out;rw[Bool.and_eq_true,decide_eq_true_iff,decide_eq_true_iff] at this;exact this)
   have vv:i+2<=s.size:=by
    have:=(Qb.1 hcc.out.2).1;rw[htl.out] at this;omega
   have bg:Hid (zgu t (qs.map Prod.fst) i (qs.map Prod.fst++[zk2 [33,91] true]) (i+2)):=hid ⟨c,hgc.out,by rw[if_neg n1.out,if_neg n2.out,if_neg n3.out,if_neg n4.out,if_neg n5.out,if_neg n6.out,if_neg n7.out,if_pos hcc.out];exact⟨rfl,rfl⟩⟩;have dw:=hid (lg.out (i+1) 91 hcc.out.2 (by decide));have jh:w.heap.size<=wr.heap.size:=by omega
   have hE1:Hid ((i+2)<=s.size):=hid (by omega);have hE2:Hid (qs.length+1<=(i+2)):=hid (by omega);have gy:Hid (s.size-(i+2)<gk):=hid (by have:=gq.out;omega);go_wp2_with (at_builtin;refine apPt wr (zk2 [33,91] true) none 0 0 (by rfl) _ _ (by rfl) w.heap.size (.slice a' qs.length cap') qs.length (za9 qs) (by rfl) (hown.out wr _ (Below.refl _ _)) (by rfl) (by omega) jh ?_)
   intro g' dh w2 hown1 hgrow hat;have hR:=hid (dx.out.push (np:=zk2 [33,91] true) (kv:=.slice none 0 0) (bg.out) (by omega) (by simp[zk2]) (by simp[zk2]) (dw.out) (Below.refl _ _) (.nil) hown1 hgrow hat);clear hown1 hgrow hat;go_wp2;refine Handed.intro (s.size-(i+2)) gy.out (hJ _ _ _ ⟨(i+2),qs.length+1,dh,some ⟨g',0,none⟩,hE1.out,rfl,⟨rfl,rfl,rfl,rfl,rfl⟩,hE2.out,hid (by obtain⟨q2,h1,h2⟩:=hR.out;exact⟨q2,h1.symm,h2⟩)⟩)
  case false=>
  have n8:Hid (¬(c=33/\t[i+1]?=some 91)):=hid (λh=>by
   have:=jw.out;rw[decide_eq_true h.1,decide_eq_true h.2] at this;cases this)
  clear jw;obtain⟨b9,hb9⟩:∃x:Bool,decide (c=93)=x:=⟨_,rfl⟩;have mq:=hid hb9;clear hb9;go_upto_region 47 with fail
  go_cut [238] from 239 to 242 (λsx wx=>sx=.bool b9/\wr=wx)
  case first=>
   have e1:((c.toNat:Int) == 93)=b9:=by
    rw[<-mq.out,Bool.eq_iff_iff,beq_iff_eq,decide_eq_true_iff,<-Qk];exact⟨λh=>by show c.toNat=93;omega,λh=>by have h2:c.toNat=93:=h;omega⟩
   go_wp2;go_meet;exact⟨rfl,rfl⟩
  case rest=>
  obtain⟨rfl,rfl⟩:=hcut;cases b9
  case true=>
   have hck:Hid (c=93):=hid (of_decide_eq_true mq.out);have hc93:Hid (t[i]?=some 93):=hid (by rw[hgc.out,hck.out]);have hCl:Hid (Calls prog 139 #[.slice a' qs.length cap',.string s,.int .i64 (i:Nat)] wr λe w'=>∃(n2 cap2 p2:Nat) (a2:Option Addr),e=.returned (.tuple #[.slice a2 n2 cap2,.int .i64 (p2:Nat)])/\Hid (p2<=s.size/\s.size-p2<gk/\n2<=p2/\∃jd,n2=jd.length/\WL w t jd p2 a2 cap2 w')):=hid (by
    have:=zsn w.heap.size a' cap' qs s i wr dx.out.own qx hs hlt (by have:=dx.out.tot;omega) dx.out.nums;rw[jl.out] at this;refine this.mono ?_;rintro e w2⟨jd,a2,cap2,p2,rfl,h⟩;obtain⟨h1,h2,h3⟩:=h.out;have hpl:=h2.place hc93.out;have hst:zgu t (qs.map Prod.fst) i (jd.map Prod.fst) p2:=⟨c,hgc.out,by rw[if_neg n1.out,if_neg n2.out,if_neg n3.out,if_neg n4.out,if_neg n5.out,if_neg n6.out,if_neg n7.out,if_neg n8.out,if_pos hck.out];exact h2⟩;have hW2:=dx.out.closed hc93.out hst h2 h1 h3;exact⟨jd.length,cap2,p2,a2,rfl,hid ⟨by rw[<-htl.out];exact hpl.2.1,by have:=gq.out;omega,hW2.len,jd,rfl,hW2⟩⟩)
   go_wp2_with (fail);refine hCl.out.mono ?_;rintro e w2⟨n2,cap2,p2,a2,rfl,hU⟩;go_wp2;exact Handed.intro (s.size-p2) hU.out.2.1 (hJ _ _ _ ⟨p2,n2,cap2,a2,hU.out.1,rfl,⟨rfl,rfl,rfl,rfl,rfl⟩,hU.out.2.2.1,hid hU.out.2.2.2⟩)
  case false=>
  have n9:Hid (¬c=93):=hid (of_decide_eq_false mq.out);clear mq;have hcb:Hid ((s.extract i (i+1)).data.toList=(t.drop i).take 1):=hid (by rw[zd4,jl.out,show i+1-i=1 by omega]);obtain⟨sb,hsb⟩:=Qyy (s.extract i (i+1));rw[hsb] at hcb;have hTx:Hid (Calls prog 134 #[.string sb] wr λe w'=>e=.returned (.agg #[.int .i64 0,.string sb,.int .i64 0,.int .i64 0,.int .i64 0,.string ⟨#[]⟩,.string ⟨#[]⟩,.int .i64 0,.slice none 0 0,.int .u8 0,.int .i64 0,.int .i64 0,.bool false,.bool false,.bool false,.bool false])/\Below wr.heap.size wr w'):=hid ((ziy sb wr).mono (λe w' ⟨h1,h2⟩=>⟨by rw[h1];unfold zow pt16 txtR;simp only[S.zbp];rfl,h2⟩));have bg:Hid (zgu t (qs.map Prod.fst) i (qs.map Prod.fst++[txtR ((t.drop i).take 1)]) (i+1)):=hid ⟨c,hgc.out,by rw[if_neg n1.out,if_neg n2.out,if_neg n3.out,if_neg n4.out,if_neg n5.out,if_neg n6.out,if_neg n7.out,if_neg n8.out,if_neg n9.out];exact⟨rfl,rfl⟩⟩;have dw:Hid (spB t (i+1)<=qs.length+1):=hid (by
   rw[zpg t i c hgc.out];have:=dx.out.sp;split<;>omega)
  have hJe:(i:Int)+1<=(s.size:Int):=by omega
  have hJe2:(i:Int)<=(i:Int)+1:=by omega
  have yx:((i:Int)+1).toNat=i+1:=by omega
  go_wp2_with fail
  refine hTx.out.mono ?_;rintro e w1⟨rfl,hb1⟩;have fq:=hid hb1;have kr:wr.heap.size<=w1.heap.size:=hb1.size;clear hb1;have jh:w.heap.size<=w1.heap.size:=by omega
  have hE1:Hid ((i+1)<=s.size):=hid (by omega);have hE2:Hid (qs.length+1<=(i+1)):=hid (by omega);have gy:Hid (s.size-(i+1)<gk):=hid (by have:=gq.out;omega);go_wp2_with (at_builtin;refine apPt w1 (txtR sb.data.toList) none 0 0 (by rfl) _ _ (by rfl) w.heap.size (.slice a' qs.length cap') qs.length (za9 qs) (by rfl) (hown.out w1 _ (fq.out)) (by rfl) (by omega) jh ?_)
  intro g' dh w2 hown1 hgrow hat;rw[hcb.out] at hown1;have hR:=hid (dx.out.push (np:=txtR ((t.drop i).take 1)) (kv:=.slice none 0 0) (bg.out) (by omega) (by simp[txtR];omega) (by simp[txtR]) (dw.out) (fq.out) (.nil) hown1 hgrow hat);clear hown1 hgrow hat;go_wp2;refine Handed.intro (s.size-(i+1)) gy.out (hJ _ _ _ ⟨(i+1),qs.length+1,dh,some ⟨g',0,none⟩,hE1.out,rfl,⟨rfl,rfl,rfl,rfl,rfl⟩,hE2.out,hid (by obtain⟨q2,h1,h2⟩:=hR.out;exact⟨q2,h1.symm,h2⟩)⟩)
 ·have hie:i=s.size:=by omega
  have hJ1:¬(i:Int)<(s.size:Int):=by omega
  have hcq:qs.length<=cap':=by
   rcases dx.out.own.own.2 with ⟨h1,h2⟩|⟨_,_,_,h1,_,_,h4,_⟩
   ·omega
   ·injection h1 with _ _ h3;omega
  have hPr:Hid (Calls prog 140 #[.slice a' qs.length cap'] wr λe w2=>∃v ns,e=.returned v/\RepN w2 (λx=>w.heap.size<=x/\x<w2.heap.size) v ns/\Hid (WTo t [] 0 ns)/\Below w.heap.size w w2):=hid (by
   refine(zls (λx=>w.heap.size<=x) a' cap' qs wr hcq dx.out.own.row (λj p hp=>(dx.out.own.kids j p hp).move (λ_ hy=>⟨hy.1,hy.2.1⟩) (λ_ _=>rfl)) (by have:=dx.out.tot;omega) dx.out.nums (λx hx=>by omega)).mono ?_;rintro e w2⟨v,ns,rfl,hr,hp,hb⟩;exact⟨v,ns,rfl,hr,hid (dx.out.toL ns (.done _ _ _ (by rw[htl.out];omega) hp.out)),dx.out.below.trans (hb.mono qx)⟩)
  clear hie;go_wp2_with fail
  refine hPr.out.mono ?_;rintro e w2⟨v,ns,rfl,hr,hto,hb⟩;have hrH:=hid hr;have hbH:=hid hb;clear hr hb;go_wp2;go_ret;exact⟨v,ns,rfl,hrH.out,hto,hbH.out⟩
end Go.Proofs.YtlojgpkajkedeaaGreatDoor
