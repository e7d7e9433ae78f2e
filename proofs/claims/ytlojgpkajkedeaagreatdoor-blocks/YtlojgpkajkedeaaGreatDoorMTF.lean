import Derived.Test.YtlojgpkajkedeaaGreatDoorMTD
import Derived.Deep.LoopGhost
import Derived.ArgAppend
namespace Go.Proofs.YtlojgpkajkedeaaGreatDoor
open Go.RowKit
theorem zkx (c:UInt8) (l:List UInt8) (j:Nat) (h:j<S.cnt c l):l[j]?=some c:=by
 induction l generalizing j with
 | nil=>simp[S.cnt] at h
 | cons x r ih=>
  simp only[S.cnt] at h
  split at h
  ·rename_i hx
   cases j with
   | zero=>rw[hx];rfl
   | succ j=>rw[List.getElem?_cons_succ];exact ih j (by omega)
  ·omega
theorem zlp (l:List UInt8) (p:Nat) (h:0<ang l p):p+2≤ang l p∧ang l p≤l.length∧l[ang l p-1]?=some 62:=by
 unfold ang at h ⊢
 by_cases ho:S.zd9 (l.drop p)=true
 ·rw[if_pos ho] at h ⊢
  unfold S.zd9 at ho
  rw[Bool.and_eq_true,has1,List.drop_drop,List.getElem?_drop,Nat.add_zero] at ho
  have h1:=(List.getElem?_eq_some_iff.1 ho.2).1
  have h2:1≤S.zdc (l.drop p):=by unfold S.zdc S.colon;omega
  exact ⟨by omega,by omega,by rw[Nat.add_sub_cancel];exact ho.2⟩
 ·rw[if_neg ho] at h;omega
theorem zrb (z f:Nat) (l:List UInt8) (k K:Nat) (h:S.zbr z f l k=some K):k≤K∧S.cnt 96 (l.drop (K-k))=z:=by
 induction f generalizing l k with
 | zero=>simp[S.zbr] at h
 | succ f ih=>
  cases l with
  | nil=>simp[S.zbr] at h
  | cons b r=>
   simp only[S.zbr] at h
   split at h
   ·split at h
    ·rename_i hc;cases h;exact ⟨Nat.le_refl _,by rw[Nat.sub_self];exact hc⟩
    ·obtain ⟨h1,h2⟩:=ih _ _ h
     refine ⟨by omega,?_⟩
     rw[List.drop_drop] at h2
     rw[← h2];congr 2;omega
   ·obtain ⟨h1,h2⟩:=ih _ _ h
    refine ⟨by omega,?_⟩
    rw[show K-k=(K-(k+1))+1 by omega,List.drop_succ_cons];exact h2
theorem zlf (l:List UInt8) (p:Nat) (h1:1≤S.cnt 96 (l.drop p)) (h:0<grv l p):p+S.cnt 96 (l.drop p)+S.cnt 96 (l.drop p)≤grv l p∧grv l p≤l.length∧l[grv l p-1]?=some 96:=by
 unfold grv at h ⊢
 cases hs:S.ze6 (l.drop p) (S.cnt 96 (l.drop p)) with
 | none=>rw[hs] at h;simp[grvV] at h
 | some K=>
  obtain ⟨n,hn⟩:∃ n,S.cnt 96 (l.drop p)=n:=⟨_,rfl⟩
  rw[hn] at hs h1 ⊢
  have hle:n≤(l.drop p).length:=by rw[← hn];exact S.zd0 96 _
  have hb:=S.zgv _ _ _ hle hs
  rw[List.length_drop] at hb hle
  unfold S.ze6 at hs
  obtain ⟨h2,h3⟩:=zrb _ _ _ _ _ hs
  rw[List.drop_drop,List.drop_drop] at h3
  show p+n+n≤p+K+n∧p+K+n≤l.length∧l[p+K+n-1]?=some 96
  refine ⟨by omega,by omega,?_⟩
  have:=zkx 96 _ (n-1) (by rw[h3];omega)
  rw[List.getElem?_drop] at this
  rw[← this];congr 1;omega
theorem zxx (l:List UInt8) (p:Nat) (h:0<tgt l p):l[tgt l p-1]?=some 41:=by
 unfold tgt at h ⊢
 by_cases ho:S.zd1 (l.drop p)=true
 ·rw[if_pos ho] at h ⊢
  unfold S.zd1 at ho
  rw[Bool.and_eq_true,has1,has1] at ho
  have h2:=ho.2
  rw[List.drop_drop,List.drop_drop,List.getElem?_drop,Nat.add_zero] at h2
  rw[← h2];congr 1;omega
 ·rw[if_neg ho] at h;omega
theorem zct.place {l l':List RPt} {t:List UInt8} {p p':Nat} (h:zct l t p l' p') (hp:t[p]?=some 93):p<p'∧p'≤t.length∧spB t p'=0:=by
 have hpl:=(List.getElem?_eq_some_iff.1 hp).1
 have h0:=zdw t p 93 hp (by decide)
 rcases h with ⟨_,_,h⟩|⟨_,_,_,_,_,_,h⟩|⟨_,_,_,_,_,_,hg,_,_,h⟩
 ·rw[h];exact ⟨by omega,by omega,h0⟩
 ·rw[h];exact ⟨by omega,by omega,h0⟩
 ·have hb:=zp0 t (p+1) hg
  have hl:=zxx t (p+1) hg
  rw[h]
  refine ⟨by omega,hb.2,?_⟩
  have:=zdw t (tgt t (p+1)-1) 41 hl (by decide)
  rwa [Nat.sub_add_cancel (by omega)] at this
theorem zct.nums {l l':List RPt} {t:List UInt8} {p p':Nat} (h:zct l t p l' p') (N:Nat) (hl:∀ x∈l,x.n≤N):∀ x∈l',x.n≤N:=by
 intro x hx
 rcases h with ⟨_,h,_⟩|⟨k,q,_,hq,_,h,_⟩|⟨k,q,ns,_,hq,_,_,_,h,_⟩
 ·rw[h,List.mem_append,List.mem_singleton] at hx
  rcases hx with hx|hx
  ·exact hl x hx
  ·rw[hx];exact Nat.zero_le _
 ·rw[h,List.mem_append,List.mem_singleton] at hx
  rcases hx with hx|hx
  ·rcases List.mem_or_eq_of_mem_set hx with hx|hx
   ·exact hl x hx
   ·rw[hx];exact hl q (List.mem_of_getElem? hq)
  ·rw[hx];exact Nat.zero_le _
 ·rw[h,List.mem_append,List.mem_singleton,List.mem_map] at hx
  rcases hx with ⟨y,hy,rfl⟩|hx
  ·have:=hl y (List.mem_of_mem_take hy)
   unfold zbi
   split
   ·exact this
   ·exact this
  ·rw[hx];exact Nat.zero_le _
theorem WL.closed {w wr w2:World} {t:List UInt8} {qs qs':List (RPt × Value)} {i i':Nat} {a a2:Option Addr} {cap cap2:Nat} (h:WL w t qs i a cap wr) (hc:t[i]?=some 93) (hs:zfv t (qs.map Prod.fst) i (qs'.map Prod.fst) i') (hcl:zct (qs.map Prod.fst) t i (qs'.map Prod.fst) i') (ho:POwn (fun x=>w.heap.size≤x) w.heap.size qs' (.slice a2 qs'.length cap2) w2) (hb:Below w.heap.size wr w2):WL w t qs' i' a2 cap2 w2:=by
 have hsm:=hcl.small
 have hpl:=hcl.place hc
 rw[List.length_map,List.length_map] at hsm
 rw[← zpq,← zpq] at hsm
 have h1:=h.len
 have h2:=h.tot
 refine ⟨ho,by omega,by omega,fun j p hj=>?_,by omega,fun ns hns=>h.toL ns (.step _ _ _ _ _ hs hns),h.below.trans hb⟩
 refine hcl.nums 1000000 (fun x hx=>?_) p.1 (List.mem_map_of_mem (List.mem_of_getElem? hj))
 rw[List.mem_map] at hx
 obtain ⟨y,hy,rfl⟩:=hx
 obtain ⟨k,hk⟩:=List.getElem?_of_mem hy
 exact h.nums k y hk
structure wFrm (s:ByteArray) (lv iv:Value) (a:Act):Prop where
 size:a.tmps.size=252
 zero:a.tmps[0]?=some (.string s)
 three:a.tmps[3]?=some lv
 four:a.tmps[4]?=some iv
 defers:a.defers=[]
set_option maxRecDepth 100000 in
theorem zsm (l:List Value) (h:l.length=252):∃ u:Nat→Value,l=[u 0,u 1,u 2,u 3,u 4,u 5,u 6,u 7,u 8,u 9,u 10,u 11,u 12,u 13,u 14,u 15,u 16,u 17,u 18,u 19,u 20,u 21,u 22,u 23,u 24,u 25,u 26,u 27,u 28,u 29,u 30,u 31,u 32,u 33,u 34,u 35,u 36,u 37,u 38,u 39,u 40,u 41,u 42,u 43,u 44,u 45,u 46,u 47,u 48,u 49,u 50,u 51,u 52,u 53,u 54,u 55,u 56,u 57,u 58,u 59,u 60,u 61,u 62,u 63,u 64,u 65,u 66,u 67,u 68,u 69,u 70,u 71,u 72,u 73,u 74,u 75,u 76,u 77,u 78,u 79,u 80,u 81,u 82,u 83,u 84,u 85,u 86,u 87,u 88,u 89,u 90,u 91,u 92,u 93,u 94,u 95,u 96,u 97,u 98,u 99,u 100,u 101,u 102,u 103,u 104,u 105,u 106,u 107,u 108,u 109,u 110,u 111,u 112,u 113,u 114,u 115,u 116,u 117,u 118,u 119,u 120,u 121,u 122,u 123,u 124,u 125,u 126,u 127,u 128,u 129,u 130,u 131,u 132,u 133,u 134,u 135,u 136,u 137,u 138,u 139,u 140,u 141,u 142,u 143,u 144,u 145,u 146,u 147,u 148,u 149,u 150,u 151,u 152,u 153,u 154,u 155,u 156,u 157,u 158,u 159,u 160,u 161,u 162,u 163,u 164,u 165,u 166,u 167,u 168,u 169,u 170,u 171,u 172,u 173,u 174,u 175,u 176,u 177,u 178,u 179,u 180,u 181,u 182,u 183,u 184,u 185,u 186,u 187,u 188,u 189,u 190,u 191,u 192,u 193,u 194,u 195,u 196,u 197,u 198,u 199,u 200,u 201,u 202,u 203,u 204,u 205,u 206,u 207,u 208,u 209,u 210,u 211,u 212,u 213,u 214,u 215,u 216,u 217,u 218,u 219,u 220,u 221,u 222,u 223,u 224,u 225,u 226,u 227,u 228,u 229,u 230,u 231,u 232,u 233,u 234,u 235,u 236,u 237,u 238,u 239,u 240,u 241,u 242,u 243,u 244,u 245,u 246,u 247,u 248,u 249,u 250,u 251]∧∀ i,i<252→l[i]?=some (u i):=by
 refine ⟨fun i=>l[i]?.getD undef,?_,?_⟩
 ·show l=(List.range 252).map (fun i=>l[i]?.getD undef)
  apply List.ext_getElem?
  intro i
  rw[List.getElem?_map]
  by_cases hi:i<252
  ·rw[List.getElem?_range hi,List.getElem?_eq_getElem (by omega),Option.map_some,List.getElem?_eq_getElem (by omega)];rfl
  ·rw[List.getElem?_eq_none (by omega),List.getElem?_eq_none (by simp;omega)];rfl
 ·intro i hi
  show l[i]?=some (l[i]?.getD undef)
  rw[List.getElem?_eq_getElem (by omega)];rfl
set_option maxRecDepth 100000 in
theorem wFrm.out {s:ByteArray} {lv iv:Value} {a:Act} (h:wFrm s lv iv a):∃ u:Nat→Value,a = { tmps:=#[.string s,u 1,u 2,lv,iv,u 5,u 6,u 7,u 8,u 9,u 10,u 11,u 12,u 13,u 14,u 15,u 16,u 17,u 18,u 19,u 20,u 21,u 22,u 23,u 24,u 25,u 26,u 27,u 28,u 29,u 30,u 31,u 32,u 33,u 34,u 35,u 36,u 37,u 38,u 39,u 40,u 41,u 42,u 43,u 44,u 45,u 46,u 47,u 48,u 49,u 50,u 51,u 52,u 53,u 54,u 55,u 56,u 57,u 58,u 59,u 60,u 61,u 62,u 63,u 64,u 65,u 66,u 67,u 68,u 69,u 70,u 71,u 72,u 73,u 74,u 75,u 76,u 77,u 78,u 79,u 80,u 81,u 82,u 83,u 84,u 85,u 86,u 87,u 88,u 89,u 90,u 91,u 92,u 93,u 94,u 95,u 96,u 97,u 98,u 99,u 100,u 101,u 102,u 103,u 104,u 105,u 106,u 107,u 108,u 109,u 110,u 111,u 112,u 113,u 114,u 115,u 116,u 117,u 118,u 119,u 120,u 121,u 122,u 123,u 124,u 125,u 126,u 127,u 128,u 129,u 130,u 131,u 132,u 133,u 134,u 135,u 136,u 137,u 138,u 139,u 140,u 141,u 142,u 143,u 144,u 145,u 146,u 147,u 148,u 149,u 150,u 151,u 152,u 153,u 154,u 155,u 156,u 157,u 158,u 159,u 160,u 161,u 162,u 163,u 164,u 165,u 166,u 167,u 168,u 169,u 170,u 171,u 172,u 173,u 174,u 175,u 176,u 177,u 178,u 179,u 180,u 181,u 182,u 183,u 184,u 185,u 186,u 187,u 188,u 189,u 190,u 191,u 192,u 193,u 194,u 195,u 196,u 197,u 198,u 199,u 200,u 201,u 202,u 203,u 204,u 205,u 206,u 207,u 208,u 209,u 210,u 211,u 212,u 213,u 214,u 215,u 216,u 217,u 218,u 219,u 220,u 221,u 222,u 223,u 224,u 225,u 226,u 227,u 228,u 229,u 230,u 231,u 232,u 233,u 234,u 235,u 236,u 237,u 238,u 239,u 240,u 241,u 242,u 243,u 244,u 245,u 246,u 247,u 248,u 249,u 250,u 251],defers:=[] }:=by
 obtain ⟨tm,df⟩:=a
 obtain ⟨l⟩:=tm
 obtain ⟨h1,h2,h3,h4,h5⟩:=h
 simp only at h1 h2 h3 h4 h5
 obtain ⟨u,hl,hu⟩:=zsm l (by simpa using h1)
 refine ⟨u,?_⟩
 have e:∀ i v,i<252→l[i]?=some v→u i=v:=fun i v hi hv=>by
  have:=hu i hi
  rw[hv] at this;exact (Option.some.inj this).symm
 have e0:=e 0 (.string s) (by omega) (by simpa using h2)
 have e3:=e 3 lv (by omega) (by simpa using h3)
 have e4:=e 4 iv (by omega) (by simpa using h4)
 rw[hl,h5,e0,e3,e4]
structure zzi (s:ByteArray) (lv iv nv:Value) (a:Act):Prop where
 size:a.tmps.size=252
 zero:a.tmps[0]?=some (.string s)
 three:a.tmps[3]?=some lv
 four:a.tmps[4]?=some iv
 ten:a.tmps[10]?=some nv
 defers:a.defers=[]
set_option maxRecDepth 100000 in
theorem zzi.out {s:ByteArray} {lv iv nv:Value} {a:Act} (h:zzi s lv iv nv a):∃ u:Nat→Value,a = { tmps:=#[.string s,u 1,u 2,lv,iv,u 5,u 6,u 7,u 8,u 9,nv,u 11,u 12,u 13,u 14,u 15,u 16,u 17,u 18,u 19,u 20,u 21,u 22,u 23,u 24,u 25,u 26,u 27,u 28,u 29,u 30,u 31,u 32,u 33,u 34,u 35,u 36,u 37,u 38,u 39,u 40,u 41,u 42,u 43,u 44,u 45,u 46,u 47,u 48,u 49,u 50,u 51,u 52,u 53,u 54,u 55,u 56,u 57,u 58,u 59,u 60,u 61,u 62,u 63,u 64,u 65,u 66,u 67,u 68,u 69,u 70,u 71,u 72,u 73,u 74,u 75,u 76,u 77,u 78,u 79,u 80,u 81,u 82,u 83,u 84,u 85,u 86,u 87,u 88,u 89,u 90,u 91,u 92,u 93,u 94,u 95,u 96,u 97,u 98,u 99,u 100,u 101,u 102,u 103,u 104,u 105,u 106,u 107,u 108,u 109,u 110,u 111,u 112,u 113,u 114,u 115,u 116,u 117,u 118,u 119,u 120,u 121,u 122,u 123,u 124,u 125,u 126,u 127,u 128,u 129,u 130,u 131,u 132,u 133,u 134,u 135,u 136,u 137,u 138,u 139,u 140,u 141,u 142,u 143,u 144,u 145,u 146,u 147,u 148,u 149,u 150,u 151,u 152,u 153,u 154,u 155,u 156,u 157,u 158,u 159,u 160,u 161,u 162,u 163,u 164,u 165,u 166,u 167,u 168,u 169,u 170,u 171,u 172,u 173,u 174,u 175,u 176,u 177,u 178,u 179,u 180,u 181,u 182,u 183,u 184,u 185,u 186,u 187,u 188,u 189,u 190,u 191,u 192,u 193,u 194,u 195,u 196,u 197,u 198,u 199,u 200,u 201,u 202,u 203,u 204,u 205,u 206,u 207,u 208,u 209,u 210,u 211,u 212,u 213,u 214,u 215,u 216,u 217,u 218,u 219,u 220,u 221,u 222,u 223,u 224,u 225,u 226,u 227,u 228,u 229,u 230,u 231,u 232,u 233,u 234,u 235,u 236,u 237,u 238,u 239,u 240,u 241,u 242,u 243,u 244,u 245,u 246,u 247,u 248,u 249,u 250,u 251],defers:=[] }:=by
 obtain ⟨tm,df⟩:=a
 obtain ⟨l⟩:=tm
 obtain ⟨h1,h2,h3,h4,h6,h5⟩:=h
 simp only at h1 h2 h3 h4 h5 h6
 obtain ⟨u,hl,hu⟩:=zsm l (by simpa using h1)
 refine ⟨u,?_⟩
 have e:∀ i v,i<252→l[i]?=some v→u i=v:=fun i v hi hv=>by
  have:=hu i hi
  rw[hv] at this;exact (Option.some.inj this).symm
 have e0:=e 0 (.string s) (by omega) (by simpa using h2)
 have e3:=e 3 lv (by omega) (by simpa using h3)
 have e4:=e 4 iv (by omega) (by simpa using h4)
 have e10:=e 10 nv (by omega) (by simpa using h6)
 rw[hl,h5,e0,e3,e4,e10]
theorem zqb (c:UInt8) (l:List UInt8):l[S.cnt c l]?≠some c:=by
 induction l with
 | nil=>simp
 | cons x r ih=>
  simp only[S.cnt]
  split
  ·rw[List.getElem?_cons_succ];exact ih
  ·rename_i h;simpa using h
theorem zw9 (t:List UInt8) (i:Nat) (hi:i≤t.length):spB t i≤i∧(∀ j,j<spB t i→t[i-1-j]?=some 32)∧(spB t i<i→t[i-1-spB t i]?≠some 32):=by
 have hl:(t.take i).reverse.length=i:=by rw[List.length_reverse,List.length_take];omega
 have hg:∀ j,j<i→(t.take i).reverse[j]?=t[i-1-j]?:=fun j hj=>by
  rw[List.getElem?_reverse (by rw[List.length_take];omega),List.length_take,Nat.min_eq_left hi,List.getElem?_take,if_pos (by omega)]
 have hle:spB t i≤i:=by have:=S.zd0 32 (t.take i).reverse;rw[hl] at this;exact this
 refine ⟨hle,fun j hj=>?_,fun h=>?_⟩
 ·rw[← hg j (by omega)];exact zkx 32 _ j hj
 ·rw[← hg _ h];exact zqb 32 _
theorem WL.line {w wr w2:World} {t:List UInt8} {qs:List (RPt × Value)} {i m0:Nat} {a:Option Addr} {cap:Nat} {ob:Obj} {v:Value} {np:RPt} (h:WL w t qs i a cap wr) (hs:zfv t (qs.map Prod.fst) i ((qs.map Prod.fst).take m0++[np]) (i+1)) (hm:m0≤qs.length) (hz:np.s.length+np.left=0) (hn:np.n=0) (hk:np.node.kids=[]) (hsp:spB t (i+1)=0)
  (ho:w2.ownsRow (wr.alloc ob).heap.size 196 16 v (m0+1) (za9 (qs.take m0)++pt16 np (.slice none 0 0))) (hg:(wr.alloc ob).grownBy w2 none) :
  ∃ qs' g cap1,v = .slice (some ⟨g,0,none⟩) (m0+1) cap1∧qs'.length=m0+1∧WL w t qs' (i+1) (some ⟨g,0,none⟩) cap1 w2:=by
 have hw:=h.below.size
 have hbX:Below wr.heap.size wr (wr.alloc ob):=(Below.refl _ _).alloc (Nat.le_refl _) ob
 have hsX:=hbX.size
 have htl:(qs.take m0).length=m0:=by rw[List.length_take];omega
 obtain ⟨g,cap1,rfl,hg1,hg2⟩:=ho.form (by omega)
 have hbl:∀ x,x<wr.heap.size→w2.heap[x]?=wr.heap[x]?:=fun x hx=>by rw[hg.block x (by omega) (by simp),hbX.block x hx]
 refine ⟨qs.take m0++[(np,.slice none 0 0)],g,cap1,rfl,by simp;omega,⟨⟨?_,?_⟩,fun j q hj=>?_⟩,?_,?_,?_,?_,?_,?_⟩
 ·rw[zbz]
 ·rcases ho.2 with ⟨e1,_⟩|⟨g',c',cur,e1,e2,e3,e4,e5,e6,e7⟩
  ·cases e1
  ·refine .inr ⟨g',c',cur,?_,by omega,e3,?_,e5,e6,?_⟩
   ·rw[List.length_append,htl];exact e1
   ·rw[List.length_append,htl];exact e4
   ·rw[List.length_append,htl,zhd]
    have e:za9 [(np,Value.slice none 0 0)]=pt16 np (.slice none 0 0):=by simp[za9]
    rw[e];exact e7
 ·by_cases hjl:j<(qs.take m0).length
  ·rw[List.getElem?_append_left hjl,List.getElem?_take,if_pos (by omega)] at hj
   refine (h.own.kids j q hj).move (fun x hx=>⟨hx.1,by have:=hg.size;omega,?_⟩) (fun x hx=>hbl x hx.2.1)
   show some x≠some g
   intro e;injection e with e;omega
  ·rw[List.getElem?_append_right (by omega)] at hj
   have hj0:j-(qs.take m0).length=0:=by have:=(List.getElem?_eq_some_iff.1 hj).1;simp at this;omega
   rw[hj0] at hj;simp at hj;subst hj
   rw[hk];exact .nil
 ·have:=h.len;simp;omega
 ·rw[zd8,zea]
  have h1:=ze1 qs m0
  have h2:=h.tot
  have e:zc2 ([]:List (RPt × Value))=0:=rfl
  rw[e]
  show zc2 (qs.take m0)+(np.s.length+np.left+0)≤i+1
  omega
 ·intro j p hj
  by_cases hjl:j<(qs.take m0).length
  ·rw[List.getElem?_append_left hjl,List.getElem?_take,if_pos (by omega)] at hj;exact h.nums j p hj
  ·rw[List.getElem?_append_right (by omega)] at hj
   have hj0:j-(qs.take m0).length=0:=by have:=(List.getElem?_eq_some_iff.1 hj).1;simp at this;omega
   rw[hj0] at hj;simp at hj;subst hj
   show np.n≤1000000
   omega
 ·rw[hsp];exact Nat.zero_le _
 ·intro ns hns
  rw[List.map_append,List.map_take] at hns
  exact h.toL ns (.step _ _ _ _ _ hs hns)
 ·exact h.below.trans (Below.grown (hbX.mono hw) hg (by omega) (fun q hq=>by cases hq))
set_option maxRecDepth 100000 in
set_option maxHeartbeats 16000000 in
theorem zrf:WOK (fun s ns=>WTo s [] 0 ns):=by
 intro s w hs
 obtain ⟨i0,hi',hi0,hi1,hi2⟩:=info_parts Tryz.zm7
 obtain ⟨t,ht⟩:∃ t,s.data.toList=t:=⟨_,rfl⟩
 have hst:=hid (WL.start w t)
 have htH:=hid ht
 have htl:Hid (t.length=s.size):=hid (by rw[← ht,S.length_data])
 rw[ht]
 clear ht
 go_enter Tryz.func95,Tryz.ntmps95
 go_upto_region 3 with fail
 refine wp_loop_ghost_k (fun gk ac wr=>∃ (i n' cap':Nat) (a':Option Addr),i≤s.size∧gk=s.size-i∧wFrm s (.slice a' n' cap') (.int .i64 (i:Nat)) ac∧n'≤i∧Hid (∃ qs,n'=qs.length∧WL w t qs i a' cap' wr)) s.size ⟨0,0,0,none,Nat.zero_le _,rfl,⟨rfl,rfl,rfl,rfl,rfl⟩,Nat.le_refl _,hid ⟨[],rfl,hst.out⟩⟩ ?_
 rintro gk ac wr ⟨i,n',cap',a',hi,hgk,hfrm,hn',hr⟩ J K hJ hK
 obtain ⟨u,rfl⟩:=hfrm.out
 have hgkH:=hid hgk
 clear hgk hfrm
 clear hst
 obtain ⟨qs,hq,hW⟩:=hr.out
 subst hq
 have hWH:=hid hW
 have hwsz:w.heap.size≤wr.heap.size:=hW.below.size
 clear hr hW
 by_cases hlt:i<s.size
 ·have hJ1:(i:Int)<(s.size:Int):=by omega
  have hJ0:(0:Int)≤(i:Int):=by omega
  obtain ⟨nx,hnx⟩:∃ nx,s.extract (i+1) (i+2)=nx:=⟨_,rfl⟩
  have hnxd:Hid (nx.data.toList=(t.drop (i+1)).take 1):=hid (by rw[← hnx,zcz,htH.out,show i+2-(i+1)=1 by omega])
  have hnxH:=hid hnx
  clear hnx
  obtain ⟨c,hc⟩:∃ c,s[i]=c:=⟨_,rfl⟩
  have hgc:Hid (t[i]?=some c):=hid (by rw[← htH.out,S.zaf s i hlt,hc])
  have hwi1:IntKind.i64.wrap ((i:Int)+1)=(i:Int)+1:=by rw[IntKind.wrap_i64];omega
  have hwi2:IntKind.i64.wrap ((i:Int)+2)=(i:Int)+2:=by rw[IntKind.wrap_i64];omega
  go_upto_if 21 with fail
  go_cut [5] from 22 to 27 (fun s5 wx=>s5 = .string nx∧wr=wx)
  case first=>
   by_cases h1:i+1<s.size
   ·have h1':(i:Int)+1<(s.size:Int):=by omega
    have h2':(i:Int)+2≤(s.size:Int):=by omega
    have h3':(0:Int)≤(i:Int)+1:=by omega
    have h4':(i:Int)+1≤(i:Int)+2:=by omega
    go_wp2
    go_meet
    exact ⟨by rw[hnxH.out],rfl⟩
   ·have h1':¬ (i:Int)+1<(s.size:Int):=by omega
    have he:Hid (nx=⟨#[]⟩):=hid (by
     rw[← S.zbq nx,hnxd.out,List.drop_eq_nil_of_le (by rw[htl.out];omega)];rfl)
    go_wp2
    go_meet
    exact ⟨by rw[he.out],rfl⟩
  case rest=>
  obtain ⟨rfl,rfl⟩:=hcut
  have hown:Hid (∀ (w1:World) ob,Below wr.heap.size wr w1→(w1.alloc ob).ownsRow w.heap.size 196 16 (.slice a' qs.length cap') qs.length (za9 qs)):=hid (fun w1 ob hb=>(hWH.out.own.after (hb.alloc hb.size ob)).own)
  obtain ⟨L,hL⟩:∃ L,qs.map Prod.fst=L:=⟨_,rfl⟩
  obtain ⟨bn,hbn⟩:∃ bn,decide (t[i+1]?=some 10)=bn:=⟨_,rfl⟩
  have hnl:nx.toList=(t.drop (i+1)).take 1:=by rw[ByteArray.toList_eq];exact hnxd.out
  have ebn:(nx.toList == [10])=bn:=by
   rw[hnl,← hbn]
   cases h:t[i+1]? with
   | none=>rw[List.drop_eq_nil_of_le (List.getElem?_eq_none_iff.1 h)];rfl
   | some d=>
    obtain ⟨h1,h2⟩:=List.getElem?_eq_some_iff.1 h
    rw[List.drop_eq_getElem_cons h1,h2,List.take_succ_cons,List.take_zero]
    by_cases e:d=10
    ·subst e;rfl
    ·rw[decide_eq_false (by simpa using e)];simp[e]
  have hbnH:=hid hbn
  have hLH:=hid hL
  have hnlH:=hid hnl
  have hsp0:Hid (∀ i' d,t[i']?=some d→d≠32→spB t (i' + 1)≤qs.length+1):=hid (fun i' d h1 h2=>by rw[zdw t i' d h1 h2];omega)
  clear hbn hL hnl
  obtain ⟨b1,hb1⟩:∃ b1:Bool,(decide (c=92) && bn)=b1:=⟨_,rfl⟩
  have hb1H:=hid hb1
  clear hb1
  go_upto_region 9 with fail
  go_cut [39] from 40 to 47 (fun s39 wx=>s39 = .bool b1∧wr=wx)
  case first=>
   by_cases h92:c=92
   ·have e1:((c.toNat:Int) == 92)=true:=by rw[h92];rfl
    have he:Hid (b1=bn):=hid (by rw[← hb1H.out,decide_eq_true h92,Bool.true_and])
    clear h92
    go_wp2
    go_meet
    exact ⟨by rw[he.out],rfl⟩
   ·have e1:((c.toNat:Int) == 92)=false:=by
     rw[beq_eq_false_iff_ne];intro h;exact h92 (UInt8.toNat_inj.1 (by show c.toNat=92;omega))
    have he:Hid (b1=false):=hid (by rw[← hb1H.out,decide_eq_false h92];rfl)
    clear h92
    go_wp2
    go_meet
    exact ⟨by rw[he.out],rfl⟩
  case rest=>
  obtain ⟨rfl,rfl⟩:=hcut
  cases b1
  case true=>
   have hcc:Hid (c=92∧t[i+1]?=some 10):=hid (by
    have:=hb1H.out
    rw[Bool.and_eq_true,decide_eq_true_iff] at this
    exact ⟨this.1,by have h2:=hbnH.out;rw[this.2] at h2;exact of_decide_eq_true h2⟩)
   have hi2s:i+2≤s.size:=by
    have:=(List.getElem?_eq_some_iff.1 hcc.out.2).1
    rw[htl.out] at this;omega
   have hstepH:Hid (zfv t (qs.map Prod.fst) i (qs.map Prod.fst++[zg0 10 []]) (i+2)):=hid ⟨c,hgc.out,by rw[if_pos hcc.out];exact ⟨rfl,rfl⟩⟩
   have hspH:=hid (hsp0.out (i+1) 10 hcc.out.2 (by decide))
   have hone:Hid (∀ v∈([.int .i64 1,.string ⟨#[]⟩,.int .i64 0,.int .i64 10,.int .i64 0,.string ⟨#[]⟩,.string ⟨#[]⟩,.int .i64 0,.slice none 0 0,.int .u8 0,.int .i64 0,.int .i64 0,.bool false,.bool false,.bool false,.bool false]:List Value),v.oneCell'=true):=hid (by
    intro v hv;simp only[List.mem_cons,List.not_mem_nil,or_false] at hv;rcases hv with rfl|rfl|rfl|rfl|rfl|rfl|rfl|rfl|rfl|rfl|rfl|rfl|rfl|rfl|rfl|rfl <;> rfl)
   have hnew:Hid (∀ jj v,([.int .i64 1,.string ⟨#[]⟩,.int .i64 0,.int .i64 10,.int .i64 0,.string ⟨#[]⟩,.string ⟨#[]⟩,.int .i64 0,.slice none 0 0,.int .u8 0,.int .i64 0,.int .i64 0,.bool false,.bool false,.bool false,.bool false]:List Value)[jj]?=some v→(wr.alloc (.cells #[.int .i64 1,.string ⟨#[]⟩,.int .i64 0,.int .i64 10,.int .i64 0,.string ⟨#[]⟩,.string ⟨#[]⟩,.int .i64 0,.slice none 0 0,.int .u8 0,.int .i64 0,.int .i64 0,.bool false,.bool false,.bool false,.bool false] 196)).cell? ((⟨wr.heap.size,0,none⟩:Addr).add jj)=some v):=hid (fun jj v hj=>World.news_of_block (za1 _ _) jj v (by exact hj))
   have hres:Hid (∀ ob g' cap1 w2,w2.ownsRow w.heap.size 196 16 (.slice (some ⟨g',0,none⟩) (qs.length+1) cap1) (qs.length+1) (za9 qs++[.int .i64 1,.string ⟨#[]⟩,.int .i64 0,.int .i64 10,.int .i64 0,.string ⟨#[]⟩,.string ⟨#[]⟩,.int .i64 0,.slice none 0 0,.int .u8 0,.int .i64 0,.int .i64 0,.bool false,.bool false,.bool false,.bool false])→(wr.alloc ob).grownBy w2 (Value.slice a' qs.length cap').ownBlock→((Value.slice a' qs.length cap').ownBlock=some g'∨g'=wr.heap.size+1)→∃ qs',qs'.length=qs.length+1∧WL w t qs' (i+2) (some ⟨g',0,none⟩) cap1 w2):=hid (fun ob g' cap1 w2 h1 h2 h3=>by
    exact hWH.out.push (np:=zg0 10 []) (kv:=.slice none 0 0) (hstepH.out) (by omega) (by simp[zg0,zcx]) (by simp[zg0,zcx]) (hspH.out) (Below.refl _ _) (.nil) h1 h2 h3)
   have hwX:w.heap.size≤wr.heap.size:=by omega
   have hA1:Hid (qs.length+1≤maxLen):=hid (by unfold maxLen;omega)
   have hA2:Hid ((qs.length+1)*144≤140737488355328):=hid (by omega)
   have hA3:Hid (∀ ob,w.heap.size≤(wr.alloc ob).heap.size):=hid (fun ob=>by simp;omega)
   have hA4:Hid (∀ ob,(wr.alloc ob).heap.size=wr.heap.size+1):=hid (fun ob=>by simp)
   have hE1:Hid ((i+2)≤s.size):=hid (by omega)
   have hE2:Hid (qs.length+1≤(i+2)):=hid (by omega)
   have hE3:Hid (s.size-(i+2)<gk):=hid (by have:=hgkH.out;omega)
   go_wp2_with (at_builtin;refine wpList_append_lies _ (by rfl) _ _ 194 (by rfl) w.heap.size 196 i0 (.agg #[.int .i64 0,.string ⟨#[]⟩,.int .i64 0,.int .i64 0,.int .i64 0,.string ⟨#[]⟩,.string ⟨#[]⟩,.int .i64 0,.slice none 0 0,.int .u8 0,.int .i64 0,.int .i64 0,.bool false,.bool false,.bool false,.bool false]) 16 144 Tryz.underlying194 hi' hi0 hi1 hi2 (by rfl) (by decide) (.slice a' qs.length cap') qs.length (za9 qs) (by rfl) (hown.out wr _ (Below.refl _ _)) ⟨wr.heap.size,0,none⟩ 1 1 [.int .i64 1,.string ⟨#[]⟩,.int .i64 0,.int .i64 10,.int .i64 0,.string ⟨#[]⟩,.string ⟨#[]⟩,.int .i64 0,.slice none 0 0,.int .u8 0,.int .i64 0,.int .i64 0,.bool false,.bool false,.bool false,.bool false] (by rfl) (by rfl) hnew.out hone.out (by decide) hA1.out hA2.out (hA3.out _) (wr.heap.size+1) (hA4.out _) ?_)
   intro g' cap1 w2 hown1 hgrow hat hltg
   have hR:=hid (hres.out _ g' cap1 w2 hown1 hgrow hat)
   clear hown1 hgrow hat hltg
   go_wp2
   refine Handed.intro (s.size-(i+2)) hE3.out (hJ _ _ _ ⟨(i+2),qs.length+1,cap1,some ⟨g',0,none⟩,hE1.out,rfl,⟨rfl,rfl,rfl,rfl,rfl⟩,hE2.out,hid (by obtain ⟨q2,h1,h2⟩:=hR.out;exact ⟨q2,h1.symm,h2⟩)⟩)
  case false=>
  have n1:Hid (¬ (c=92∧t[i+1]?=some 10)):=hid (fun h=>by
   have:=hb1H.out
   rw[decide_eq_true h.1,Bool.true_and] at this
   have h2:=hbnH.out
   rw[this,decide_eq_false_iff_not] at h2
   exact h2 h.2)
  clear hb1H
  obtain ⟨bm,hbm⟩:∃ bm,decide ((t[i+1]?.map S.mark)=some true)=bm:=⟨_,rfl⟩
  have hbmH:=hid hbm
  obtain ⟨b2,hb2⟩:∃ b2:Bool,(decide (c=92) && bm)=b2:=⟨_,rfl⟩
  have hb2H:=hid hb2
  clear hbm hb2
  go_upto_region 12 with fail
  go_cut [56] from 57 to 69 (fun s56 wx=>s56 = .bool b2∧wr=wx)
  case first=>
   by_cases h92:c=92
   ·have e1:((c.toNat:Int) == 92)=true:=by rw[h92];rfl
    have he:Hid (b2=bm):=hid (by rw[← hb2H.out,decide_eq_true h92,Bool.true_and])
    clear h92
    cases hd:t[i+1]? with
    | none=>
     have hn0:nx=⟨#[]⟩:=by
      rw[← S.zbq nx,hnxd.out,List.drop_eq_nil_of_le (List.getElem?_eq_none_iff.1 hd)];rfl
     have he2:Hid (b2=false):=hid (by rw[he.out,← hbmH.out,hd];rfl)
     subst hn0
     clear ebn hd
     go_wp2
     go_meet
     exact ⟨by rw[he2.out],rfl⟩
    | some d=>
     obtain ⟨h1,h2⟩:=List.getElem?_eq_some_iff.1 hd
     have hnd:nx.data.toList=[d]:=by rw[hnxd.out,List.drop_eq_getElem_cons h1,h2];rfl
     have hnz:nx.size=1:=by rw[← S.length_data,hnd];rfl
     have hpos:0<nx.size:=by omega
     have hn00:nx[0]=d:=by
      have:=S.zaf nx 0 hpos
      rw[hnd] at this;exact (Option.some.inj this).symm
     have hTn:=S.zbl nx hpos
     have hTe:=S.zb2 nx hpos
     have hMk:=hid (zpt d wr)
     have he2:Hid (b2=S.mark d):=hid (by rw[he.out,← hbmH.out,hd,Option.map_some];cases S.mark d <;> simp)
     have hJz:(0:Int)<(nx.size:Int):=by omega
     clear hd hnd hnz ebn h1 h2
     go_wp2_with (go_at_call 133;refine hMk.out.mono ?_;rintro e w' ⟨rfl,rfl⟩)
     go_meet
     exact ⟨by rw[he2.out],rfl⟩
   ·have e1:((c.toNat:Int) == 92)=false:=by
     rw[beq_eq_false_iff_ne];intro h;exact h92 (UInt8.toNat_inj.1 (by show c.toNat=92;omega))
    have he:Hid (b2=false):=hid (by rw[← hb2H.out,decide_eq_false h92];rfl)
    clear h92
    go_wp2
    go_meet
    exact ⟨by rw[he.out],rfl⟩
  case rest=>
  obtain ⟨rfl,rfl⟩:=hcut
  cases b2
  case true=>
   have hcc:Hid (c=92∧(t[i+1]?.map S.mark)=some true):=hid (by
    have:=hb2H.out
    rw[Bool.and_eq_true,decide_eq_true_iff] at this
    exact ⟨this.1,by have h2:=hbmH.out;rw[this.2] at h2;exact of_decide_eq_true h2⟩)
   obtain ⟨d,hd⟩:∃ d,t[i+1]?=some d:=by
    cases h:t[i+1]? with
    | none=>have:=hcc.out.2;rw[h] at this;simp at this
    | some d=>exact ⟨d,rfl⟩
   have hi2s:i+2≤s.size:=by
    have:=(List.getElem?_eq_some_iff.1 hd).1
    rw[htl.out] at this;omega
   have hd32:d≠32:=by
    intro e
    have:=hcc.out.2
    rw[hd,e] at this
    simp[S.mark] at this
   have hstepH:Hid (zfv t (qs.map Prod.fst) i (qs.map Prod.fst++[txtR ((t.drop (i+1)).take 1)]) (i+2)):=hid ⟨c,hgc.out,by rw[if_neg n1.out,if_pos hcc.out];exact ⟨rfl,rfl⟩⟩
   have hspH:=hid (hsp0.out (i+1) d hd hd32)
   have hTx:Hid (Calls Tryz.prog 134 #[.string nx] wr fun e w'=>e = .returned (.agg #[.int .i64 0,.string nx,.int .i64 0,.int .i64 0,.int .i64 0,.string ⟨#[]⟩,.string ⟨#[]⟩,.int .i64 0,.slice none 0 0,.int .u8 0,.int .i64 0,.int .i64 0,.bool false,.bool false,.bool false,.bool false])∧Below wr.heap.size wr w'):=hid ((ziz nx wr).mono (fun e w' ⟨h1,h2⟩=>⟨by rw[h1];unfold znw pt16 txtR;simp only[S.zbq];rfl,h2⟩))
   clear hd hd32 ebn
   go_wp2_with fail
   refine hTx.out.mono ?_
   rintro e w1 ⟨rfl,hb1⟩
   have hb1H:=hid hb1
   have hw1s:wr.heap.size≤w1.heap.size:=hb1.size
   clear hb1
   have hone:Hid (∀ v∈([.int .i64 0,.string nx,.int .i64 0,.int .i64 0,.int .i64 0,.string ⟨#[]⟩,.string ⟨#[]⟩,.int .i64 0,.slice none 0 0,.int .u8 0,.int .i64 0,.int .i64 0,.bool false,.bool false,.bool false,.bool false]:List Value),v.oneCell'=true):=hid (by
    intro v hv;simp only[List.mem_cons,List.not_mem_nil,or_false] at hv;rcases hv with rfl|rfl|rfl|rfl|rfl|rfl|rfl|rfl|rfl|rfl|rfl|rfl|rfl|rfl|rfl|rfl <;> rfl)
   have hnew:Hid (∀ jj v,([.int .i64 0,.string nx,.int .i64 0,.int .i64 0,.int .i64 0,.string ⟨#[]⟩,.string ⟨#[]⟩,.int .i64 0,.slice none 0 0,.int .u8 0,.int .i64 0,.int .i64 0,.bool false,.bool false,.bool false,.bool false]:List Value)[jj]?=some v→(w1.alloc (.cells #[.int .i64 0,.string nx,.int .i64 0,.int .i64 0,.int .i64 0,.string ⟨#[]⟩,.string ⟨#[]⟩,.int .i64 0,.slice none 0 0,.int .u8 0,.int .i64 0,.int .i64 0,.bool false,.bool false,.bool false,.bool false] 196)).cell? ((⟨w1.heap.size,0,none⟩:Addr).add jj)=some v):=hid (fun jj v hj=>World.news_of_block (za1 _ _) jj v (by exact hj))
   have hres:Hid (∀ ob g' cap1 w2,w2.ownsRow w.heap.size 196 16 (.slice (some ⟨g',0,none⟩) (qs.length+1) cap1) (qs.length+1) (za9 qs++[.int .i64 0,.string nx,.int .i64 0,.int .i64 0,.int .i64 0,.string ⟨#[]⟩,.string ⟨#[]⟩,.int .i64 0,.slice none 0 0,.int .u8 0,.int .i64 0,.int .i64 0,.bool false,.bool false,.bool false,.bool false])→(w1.alloc ob).grownBy w2 (Value.slice a' qs.length cap').ownBlock→((Value.slice a' qs.length cap').ownBlock=some g'∨g'=w1.heap.size+1)→∃ qs',qs'.length=qs.length+1∧WL w t qs' (i+2) (some ⟨g',0,none⟩) cap1 w2):=hid (fun ob g' cap1 w2 h1 h2 h3=>by
    have e:pt16 (txtR ((t.drop (i+1)).take 1)) (.slice none 0 0)=[.int .i64 0,.string nx,.int .i64 0,.int .i64 0,.int .i64 0,.string ⟨#[]⟩,.string ⟨#[]⟩,.int .i64 0,.slice none 0 0,.int .u8 0,.int .i64 0,.int .i64 0,.bool false,.bool false,.bool false,.bool false]:=by rw[← hnxd.out];unfold pt16 txtR;simp only[S.zbq];rfl
    rw[← e] at h1
    exact hWH.out.push (np:=txtR ((t.drop (i+1)).take 1)) (kv:=.slice none 0 0) (hstepH.out) (by omega) (by rw[← hnxd.out];simp[txtR,hnxd.out];omega) (by simp[txtR]) (hspH.out) (hb1H.out) (.nil) h1 h2 h3)
   have hwX:w.heap.size≤w1.heap.size:=by omega
   have hA1:Hid (qs.length+1≤maxLen):=hid (by unfold maxLen;omega)
   have hA2:Hid ((qs.length+1)*144≤140737488355328):=hid (by omega)
   have hA3:Hid (∀ ob,w.heap.size≤(w1.alloc ob).heap.size):=hid (fun ob=>by simp;omega)
   have hA4:Hid (∀ ob,(w1.alloc ob).heap.size=w1.heap.size+1):=hid (fun ob=>by simp)
   have hE1:Hid ((i+2)≤s.size):=hid (by omega)
   have hE2:Hid (qs.length+1≤(i+2)):=hid (by omega)
   have hE3:Hid (s.size-(i+2)<gk):=hid (by have:=hgkH.out;omega)
   go_wp2_with (at_builtin;refine wpList_append_lies _ (by rfl) _ _ 194 (by rfl) w.heap.size 196 i0 (.agg #[.int .i64 0,.string ⟨#[]⟩,.int .i64 0,.int .i64 0,.int .i64 0,.string ⟨#[]⟩,.string ⟨#[]⟩,.int .i64 0,.slice none 0 0,.int .u8 0,.int .i64 0,.int .i64 0,.bool false,.bool false,.bool false,.bool false]) 16 144 Tryz.underlying194 hi' hi0 hi1 hi2 (by rfl) (by decide) (.slice a' qs.length cap') qs.length (za9 qs) (by rfl) (hown.out w1 _ (hb1H.out)) ⟨w1.heap.size,0,none⟩ 1 1 [.int .i64 0,.string nx,.int .i64 0,.int .i64 0,.int .i64 0,.string ⟨#[]⟩,.string ⟨#[]⟩,.int .i64 0,.slice none 0 0,.int .u8 0,.int .i64 0,.int .i64 0,.bool false,.bool false,.bool false,.bool false] (by rfl) (by rfl) hnew.out hone.out (by decide) hA1.out hA2.out (hA3.out _) (w1.heap.size+1) (hA4.out _) ?_)
   intro g' cap1 w2 hown1 hgrow hat hltg
   have hR:=hid (hres.out _ g' cap1 w2 hown1 hgrow hat)
   clear hown1 hgrow hat hltg
   go_wp2
   refine Handed.intro (s.size-(i+2)) hE3.out (hJ _ _ _ ⟨(i+2),qs.length+1,cap1,some ⟨g',0,none⟩,hE1.out,rfl,⟨rfl,rfl,rfl,rfl,rfl⟩,hE2.out,hid (by obtain ⟨q2,h1,h2⟩:=hR.out;exact ⟨q2,h1.symm,h2⟩)⟩)
  case false=>
  have n2:Hid (¬ (c=92∧(t[i+1]?.map S.mark)=some true)):=hid (fun h=>by
   have:=hb2H.out
   rw[decide_eq_true h.1,Bool.true_and] at this
   have h2:=hbmH.out
   rw[this,decide_eq_false_iff_not] at h2
   exact h2 h.2)
  clear hb2H hbmH
  obtain ⟨b3,hb3⟩:∃ x:Bool,decide (c=96)=x:=⟨_,rfl⟩
  have hb3H:=hid hb3
  clear hb3
  go_upto_region 15 with fail
  go_cut [77] from 78 to 81 (fun sx wx=>sx = .bool b3∧wr=wx)
  case first=>
   have e1:((c.toNat:Int) == 96)=b3:=by
    rw[← hb3H.out,Bool.eq_iff_iff,beq_iff_eq,decide_eq_true_iff,← UInt8.toNat_inj]
    exact ⟨fun h=>by show c.toNat=96;omega,fun h=>by have h2:c.toNat=96:=h;omega⟩
   go_wp2
   go_meet
   exact ⟨rfl,rfl⟩
  case rest=>
  obtain ⟨rfl,rfl⟩:=hcut
  cases b3
  case true=>
   have hck:Hid (c=96):=hid (of_decide_eq_true hb3H.out)
   obtain ⟨gn,hgn⟩:∃ gn,S.cnt 96 (t.drop i)=gn:=⟨_,rfl⟩
   obtain ⟨gv,hgv⟩:∃ gv,grv t i=gv:=⟨_,rfl⟩
   have hgn1:1≤gn:=by
    have h1:t.drop i=c::t.drop (i+1):=by
     obtain ⟨h2,h3⟩:=List.getElem?_eq_some_iff.1 hgc.out
     rw[List.drop_eq_getElem_cons h2,h3]
    rw[← hgn,h1,hck.out];simp[S.cnt]
   have hgnl:i+gn≤s.size:=by rw[← hgn];have:=S.zd0 96 (t.drop i);rw[List.length_drop,htl.out] at this;omega
   have hMy:Hid (Calls Tryz.prog 126 #[.string s,.int .i64 (i:Nat),.int .u8 96] wr fun e w'=>e = .returned (.int .i64 (gn:Nat))∧wr=w'):=hid (by
    have:=zdi s i 96 wr hs (by omega)
    rw[htH.out,hgn] at this
    exact this.mono (fun e w' ⟨h1,h2⟩=>⟨h1,h2.symm⟩))
   have hGr:Hid (Calls Tryz.prog 135 #[.string s,.int .i64 (i:Nat)] wr fun e w'=>e = .returned (.int .i64 (gv:Nat))∧wr=w'):=hid (by
    have:=zrt s i wr hs hlt (by rw[hc];exact hck.out)
    rw[htH.out,hgv] at this;exact this)
   have hgnH:=hid hgn
   have hgvH:=hid hgv
   have hwin:IntKind.i64.wrap ((i:Int)+(gn:Int))=((i+gn:Nat):Int):=by rw[IntKind.wrap_i64];omega
   by_cases hg0:0<gv
   ·have hgb:=zlf t i (by rw[hgn];exact hgn1) (by rw[hgv];exact hg0)
    rw[hgn,hgv,htl.out] at hgb
    obtain ⟨hgb1,hgb2,hgb3⟩:=hgb
    obtain ⟨gm,hgm⟩:∃ gm,gv=gm+gn:=⟨gv-gn,by omega⟩
    obtain ⟨sp,hsp⟩:∃ sp,s.extract (i+gn) gm=sp:=⟨_,rfl⟩
    obtain ⟨st,hstx⟩:∃ st,S.B (zmd sp.data.toList)=st:=⟨_,rfl⟩
    have hSp:Hid (Calls Tryz.prog 136 #[.string sp] wr fun e w'=>e = .returned (.string st)∧wr=w'):=hid (by
     have:=zwr sp wr (by rw[← hsp,ByteArray.size_extract];omega)
     rw[hstx] at this;exact this)
    have hspd:sp.data.toList=(t.drop (i+gn)).take (gv-gn-(i+gn)):=by rw[← hsp,zcz,htH.out,hgm,Nat.add_sub_cancel]
    have hstd:Hid (st.data.toList=zmd ((t.drop (i+gn)).take (gv-gn-(i+gn)))):=hid (by rw[← hstx,S.zcn,hspd])
    have hstepH:Hid (zfv t (qs.map Prod.fst) i (qs.map Prod.fst++[zg0 11 st.data.toList]) gv):=hid ⟨c,hgc.out,by rw[if_neg n1.out,if_neg n2.out,if_pos hck.out,hgn,hgv,if_pos hg0,hstd.out];exact ⟨rfl,rfl⟩⟩
    have hspH:Hid (spB t gv≤qs.length+1):=hid (by
     have:=zdw t (gv-1) 96 hgb3 (by decide)
     rw[Nat.sub_add_cancel (by omega)] at this
     omega)
    have hg0':(0:Int)<(gv:Int):=by omega
    have hwgn:IntKind.i64.wrap ((gv:Int)-(gn:Int))=(gm:Int):=by rw[IntKind.wrap_i64];omega
    have hwgn2:(gv:Int)-(gn:Int)=(gm:Int):=by omega
    have hJe:((i+gn:Nat):Int)≤(gm:Int):=by omega
    have hJe1:(i:Int)+(gn:Int)≤(gm:Int):=by omega
    have hJe2:(gm:Int)≤(s.size:Int):=by omega
    have hJe3:(0:Int)≤((i+gn:Nat):Int):=by omega
    have hLk:Hid (pt16 (zg0 11 st.data.toList) (.slice none 0 0)=[.int .i64 1,.string ⟨#[]⟩,.int .i64 0,.int .i64 11,.int .i64 0,.string ⟨#[]⟩,.string st,.int .i64 0,.slice none 0 0,.int .u8 0,.int .i64 0,.int .i64 0,.bool false,.bool false,.bool false,.bool false]):=hid (by
     unfold zg0 zcx pt16
     simp only[Rn.text,S.zbq]
     rfl)
    have hgmH:=hid hgm
    clear hgm hgb3 hstx hspd hgn hgv
    go_wp2_with fail
    refine hMy.out.mono ?_
    rintro e w' ⟨rfl,rfl⟩
    go_wp2_with fail
    refine hGr.out.mono ?_
    rintro e w' ⟨rfl,rfl⟩
    go_wp2_with fail
    refine hSp.out.mono ?_
    rintro e w' ⟨rfl,rfl⟩
    have hone:Hid (∀ v∈([.int .i64 1,.string ⟨#[]⟩,.int .i64 0,.int .i64 11,.int .i64 0,.string ⟨#[]⟩,.string st,.int .i64 0,.slice none 0 0,.int .u8 0,.int .i64 0,.int .i64 0,.bool false,.bool false,.bool false,.bool false]:List Value),v.oneCell'=true):=hid (by
     intro v hv;simp only[List.mem_cons,List.not_mem_nil,or_false] at hv;rcases hv with rfl|rfl|rfl|rfl|rfl|rfl|rfl|rfl|rfl|rfl|rfl|rfl|rfl|rfl|rfl|rfl <;> rfl)
    have hnew:Hid (∀ jj v,([.int .i64 1,.string ⟨#[]⟩,.int .i64 0,.int .i64 11,.int .i64 0,.string ⟨#[]⟩,.string st,.int .i64 0,.slice none 0 0,.int .u8 0,.int .i64 0,.int .i64 0,.bool false,.bool false,.bool false,.bool false]:List Value)[jj]?=some v→(wr.alloc (.cells #[.int .i64 1,.string ⟨#[]⟩,.int .i64 0,.int .i64 11,.int .i64 0,.string ⟨#[]⟩,.string st,.int .i64 0,.slice none 0 0,.int .u8 0,.int .i64 0,.int .i64 0,.bool false,.bool false,.bool false,.bool false] 196)).cell? ((⟨wr.heap.size,0,none⟩:Addr).add jj)=some v):=hid (fun jj v hj=>World.news_of_block (za1 _ _) jj v (by exact hj))
    have hres:Hid (∀ ob g' cap1 w2,w2.ownsRow w.heap.size 196 16 (.slice (some ⟨g',0,none⟩) (qs.length+1) cap1) (qs.length+1) (za9 qs++[.int .i64 1,.string ⟨#[]⟩,.int .i64 0,.int .i64 11,.int .i64 0,.string ⟨#[]⟩,.string st,.int .i64 0,.slice none 0 0,.int .u8 0,.int .i64 0,.int .i64 0,.bool false,.bool false,.bool false,.bool false])→(wr.alloc ob).grownBy w2 (Value.slice a' qs.length cap').ownBlock→((Value.slice a' qs.length cap').ownBlock=some g'∨g'=wr.heap.size+1)→∃ qs',qs'.length=qs.length+1∧WL w t qs' gv (some ⟨g',0,none⟩) cap1 w2):=hid (fun ob g' cap1 w2 h1 h2 h3=>by
     rw[← hLk.out] at h1
     exact hWH.out.push (np:=zg0 11 st.data.toList) (kv:=.slice none 0 0) (hstepH.out) (by omega) (by simp[zg0,zcx]) (by simp[zg0,zcx]) (hspH.out) (Below.refl _ _) (.nil) h1 h2 h3)
    have hwX:w.heap.size≤wr.heap.size:=by omega
    have hA1:Hid (qs.length+1≤maxLen):=hid (by unfold maxLen;omega)
    have hA2:Hid ((qs.length+1)*144≤140737488355328):=hid (by omega)
    have hA3:Hid (∀ ob,w.heap.size≤(wr.alloc ob).heap.size):=hid (fun ob=>by simp;omega)
    have hA4:Hid (∀ ob,(wr.alloc ob).heap.size=wr.heap.size+1):=hid (fun ob=>by simp)
    have hE1:Hid (gv≤s.size):=hid (by omega)
    have hE2:Hid (qs.length+1≤gv):=hid (by omega)
    have hE3:Hid (s.size-gv<gk):=hid (by have:=hgkH.out;omega)
    go_wp2_with (at_builtin;refine wpList_append_lies _ (by rfl) _ _ 194 (by rfl) w.heap.size 196 i0 (.agg #[.int .i64 0,.string ⟨#[]⟩,.int .i64 0,.int .i64 0,.int .i64 0,.string ⟨#[]⟩,.string ⟨#[]⟩,.int .i64 0,.slice none 0 0,.int .u8 0,.int .i64 0,.int .i64 0,.bool false,.bool false,.bool false,.bool false]) 16 144 Tryz.underlying194 hi' hi0 hi1 hi2 (by rfl) (by decide) (.slice a' qs.length cap') qs.length (za9 qs) (by rfl) (hown.out wr _ (Below.refl _ _)) ⟨wr.heap.size,0,none⟩ 1 1 [.int .i64 1,.string ⟨#[]⟩,.int .i64 0,.int .i64 11,.int .i64 0,.string ⟨#[]⟩,.string st,.int .i64 0,.slice none 0 0,.int .u8 0,.int .i64 0,.int .i64 0,.bool false,.bool false,.bool false,.bool false] (by rfl) (by rfl) hnew.out hone.out (by decide) hA1.out hA2.out (hA3.out _) (wr.heap.size+1) (hA4.out _) ?_)
    intro g' cap1 w2 hown1 hgrow hat hltg
    have hR:=hid (hres.out _ g' cap1 w2 hown1 hgrow hat)
    clear hown1 hgrow hat hltg
    go_wp2
    refine Handed.intro (s.size-gv) hE3.out (hJ _ _ _ ⟨gv,qs.length+1,cap1,some ⟨g',0,none⟩,hE1.out,rfl,⟨rfl,rfl,rfl,rfl,rfl⟩,hE2.out,hid (by obtain ⟨q2,h1,h2⟩:=hR.out;exact ⟨q2,h1.symm,h2⟩)⟩)
   ·have hg00:gv=0:=by omega
    subst hg00
    obtain ⟨sb,hsb⟩:∃ sb,s.extract i (i+gn)=sb:=⟨_,rfl⟩
    have hsbd:Hid (sb.data.toList=(t.drop i).take gn):=hid (by rw[← hsb,zcz,htH.out,show i+gn-i=gn by omega])
    have hTx:Hid (Calls Tryz.prog 134 #[.string sb] wr fun e w'=>e = .returned (.agg #[.int .i64 0,.string sb,.int .i64 0,.int .i64 0,.int .i64 0,.string ⟨#[]⟩,.string ⟨#[]⟩,.int .i64 0,.slice none 0 0,.int .u8 0,.int .i64 0,.int .i64 0,.bool false,.bool false,.bool false,.bool false])∧Below wr.heap.size wr w'):=hid ((ziz sb wr).mono (fun e w' ⟨h1,h2⟩=>⟨by rw[h1];unfold znw pt16 txtR;simp only[S.zbq];rfl,h2⟩))
    have hstepH:Hid (zfv t (qs.map Prod.fst) i (qs.map Prod.fst++[txtR sb.data.toList]) (i+gn)):=hid ⟨c,hgc.out,by rw[if_neg n1.out,if_neg n2.out,if_pos hck.out,hgvH.out,if_neg (by omega),hgn,hsbd.out];exact ⟨rfl,rfl⟩⟩
    have hspH:Hid (spB t (i+gn)≤qs.length+1):=hid (by
     have h5:=zkx 96 (t.drop i) (gn-1) (by rw[hgn];omega)
     rw[List.getElem?_drop] at h5
     have:=zdw t (i+(gn-1)) 96 h5 (by decide)
     rw[show i+(gn-1)+1=i+gn by omega] at this
     omega)
    have hsbl:Hid (sb.data.toList.length≤gn):=hid (by rw[hsbd.out,List.length_take];omega)
    have hLk:Hid (pt16 (txtR sb.data.toList) (.slice none 0 0)=[.int .i64 0,.string sb,.int .i64 0,.int .i64 0,.int .i64 0,.string ⟨#[]⟩,.string ⟨#[]⟩,.int .i64 0,.slice none 0 0,.int .u8 0,.int .i64 0,.int .i64 0,.bool false,.bool false,.bool false,.bool false]):=hid (by unfold pt16 txtR;simp only[S.zbq];rfl)
    have hJe:(i:Int)≤((i+gn:Nat):Int):=by omega
    have hJe2:((i+gn:Nat):Int)≤(s.size:Int):=by omega
    have hJe4:(i:Int)+(gn:Int)≤(s.size:Int):=by omega
    have hJe5:(i:Int)≤(i:Int)+(gn:Int):=by omega
    clear hgn hgv
    go_wp2_with fail
    refine hMy.out.mono ?_
    rintro e w' ⟨rfl,rfl⟩
    go_wp2_with fail
    refine hGr.out.mono ?_
    rintro e w' ⟨rfl,rfl⟩
    go_wp2_with fail
    refine hTx.out.mono ?_
    rintro e w1 ⟨rfl,hb1⟩
    have hb1H:=hid hb1
    have hw1s:wr.heap.size≤w1.heap.size:=hb1.size
    clear hb1
    have hone:Hid (∀ v∈([.int .i64 0,.string sb,.int .i64 0,.int .i64 0,.int .i64 0,.string ⟨#[]⟩,.string ⟨#[]⟩,.int .i64 0,.slice none 0 0,.int .u8 0,.int .i64 0,.int .i64 0,.bool false,.bool false,.bool false,.bool false]:List Value),v.oneCell'=true):=hid (by
     intro v hv;simp only[List.mem_cons,List.not_mem_nil,or_false] at hv;rcases hv with rfl|rfl|rfl|rfl|rfl|rfl|rfl|rfl|rfl|rfl|rfl|rfl|rfl|rfl|rfl|rfl <;> rfl)
    have hnew:Hid (∀ jj v,([.int .i64 0,.string sb,.int .i64 0,.int .i64 0,.int .i64 0,.string ⟨#[]⟩,.string ⟨#[]⟩,.int .i64 0,.slice none 0 0,.int .u8 0,.int .i64 0,.int .i64 0,.bool false,.bool false,.bool false,.bool false]:List Value)[jj]?=some v→(w1.alloc (.cells #[.int .i64 0,.string sb,.int .i64 0,.int .i64 0,.int .i64 0,.string ⟨#[]⟩,.string ⟨#[]⟩,.int .i64 0,.slice none 0 0,.int .u8 0,.int .i64 0,.int .i64 0,.bool false,.bool false,.bool false,.bool false] 196)).cell? ((⟨w1.heap.size,0,none⟩:Addr).add jj)=some v):=hid (fun jj v hj=>World.news_of_block (za1 _ _) jj v (by exact hj))
    have hres:Hid (∀ ob g' cap1 w2,w2.ownsRow w.heap.size 196 16 (.slice (some ⟨g',0,none⟩) (qs.length+1) cap1) (qs.length+1) (za9 qs++[.int .i64 0,.string sb,.int .i64 0,.int .i64 0,.int .i64 0,.string ⟨#[]⟩,.string ⟨#[]⟩,.int .i64 0,.slice none 0 0,.int .u8 0,.int .i64 0,.int .i64 0,.bool false,.bool false,.bool false,.bool false])→(w1.alloc ob).grownBy w2 (Value.slice a' qs.length cap').ownBlock→((Value.slice a' qs.length cap').ownBlock=some g'∨g'=w1.heap.size+1)→∃ qs',qs'.length=qs.length+1∧WL w t qs' (i+gn) (some ⟨g',0,none⟩) cap1 w2):=hid (fun ob g' cap1 w2 h1 h2 h3=>by
     rw[← hLk.out] at h1
     exact hWH.out.push (np:=txtR sb.data.toList) (kv:=.slice none 0 0) (hstepH.out) (by omega) (by show sb.data.toList.length+0≤_;have:=hsbl.out;omega) (by simp[txtR]) (hspH.out) (hb1H.out) (.nil) h1 h2 h3)
    have hwX:w.heap.size≤w1.heap.size:=by omega
    have hA1:Hid (qs.length+1≤maxLen):=hid (by unfold maxLen;omega)
    have hA2:Hid ((qs.length+1)*144≤140737488355328):=hid (by omega)
    have hA3:Hid (∀ ob,w.heap.size≤(w1.alloc ob).heap.size):=hid (fun ob=>by simp;omega)
    have hA4:Hid (∀ ob,(w1.alloc ob).heap.size=w1.heap.size+1):=hid (fun ob=>by simp)
    have hE1:Hid ((i+gn)≤s.size):=hid (by omega)
    have hE2:Hid (qs.length+1≤(i+gn)):=hid (by omega)
    have hE3:Hid (s.size-(i+gn)<gk):=hid (by have:=hgkH.out;omega)
    go_wp2_with (at_builtin;refine wpList_append_lies _ (by rfl) _ _ 194 (by rfl) w.heap.size 196 i0 (.agg #[.int .i64 0,.string ⟨#[]⟩,.int .i64 0,.int .i64 0,.int .i64 0,.string ⟨#[]⟩,.string ⟨#[]⟩,.int .i64 0,.slice none 0 0,.int .u8 0,.int .i64 0,.int .i64 0,.bool false,.bool false,.bool false,.bool false]) 16 144 Tryz.underlying194 hi' hi0 hi1 hi2 (by rfl) (by decide) (.slice a' qs.length cap') qs.length (za9 qs) (by rfl) (hown.out w1 _ (hb1H.out)) ⟨w1.heap.size,0,none⟩ 1 1 [.int .i64 0,.string sb,.int .i64 0,.int .i64 0,.int .i64 0,.string ⟨#[]⟩,.string ⟨#[]⟩,.int .i64 0,.slice none 0 0,.int .u8 0,.int .i64 0,.int .i64 0,.bool false,.bool false,.bool false,.bool false] (by rfl) (by rfl) hnew.out hone.out (by decide) hA1.out hA2.out (hA3.out _) (w1.heap.size+1) (hA4.out _) ?_)
    intro g' cap1 w2 hown1 hgrow hat hltg
    have hR:=hid (hres.out _ g' cap1 w2 hown1 hgrow hat)
    clear hown1 hgrow hat hltg
    go_wp2
    refine Handed.intro (s.size-(i+gn)) hE3.out (hJ _ _ _ ⟨(i+gn),qs.length+1,cap1,some ⟨g',0,none⟩,hE1.out,rfl,⟨rfl,rfl,rfl,rfl,rfl⟩,hE2.out,hid (by obtain ⟨q2,h1,h2⟩:=hR.out;exact ⟨q2,h1.symm,h2⟩)⟩)
  case false=>
  have n3:Hid (¬ c=96):=hid (of_decide_eq_false hb3H.out)
  clear hb3H
  obtain ⟨ag,hag⟩:∃ ag,ang t i=ag:=⟨_,rfl⟩
  have hAg:Hid (Calls Tryz.prog 137 #[.string s,.int .i64 (i:Nat)] wr fun e w'=>e = .returned (.int .i64 (ag:Nat))∧wr=w'):=hid (by
   have:=zpd s i wr hs hlt
   rw[htH.out,hag] at this;exact this)
  obtain ⟨b4,hb4⟩:∃ b4:Bool,(decide (c=60) && decide (0<ag))=b4:=⟨_,rfl⟩
  have hb4H:=hid hb4
  have hagH:=hid hag
  clear hb4 hag
  go_upto_region 23 with fail
  go_cut [119] from 120 to 129 (fun sx wx=>sx = .bool b4∧wr=wx)
  case first=>
   by_cases h60:c=60
   ·have e1:((c.toNat:Int) == 60)=true:=by rw[h60];rfl
    by_cases h0:0<ag
    ·have he:Hid (b4=true):=hid (by rw[← hb4H.out,decide_eq_true h60,decide_eq_true h0];rfl)
     have h0':(0:Int)<(ag:Int):=by omega
     clear h60
     go_wp2_with (go_at_call 137;refine hAg.out.mono ?_;rintro e w' ⟨rfl,rfl⟩)
     go_meet
     exact ⟨by rw[he.out],rfl⟩
    ·have he:Hid (b4=false):=hid (by rw[← hb4H.out,decide_eq_false h0,Bool.and_false])
     have h0':¬ (0:Int)<(ag:Int):=by omega
     have h00:ag=0:=by omega
     subst h00
     clear h60 h0
     go_wp2_with (go_at_call 137;refine hAg.out.mono ?_;rintro e w' ⟨rfl,rfl⟩)
     go_meet
     exact ⟨by rw[he.out],rfl⟩
   ·have e1:((c.toNat:Int) == 60)=false:=by
     rw[beq_eq_false_iff_ne];intro h;exact h60 (UInt8.toNat_inj.1 (by show c.toNat=60;omega))
    have he:Hid (b4=false):=hid (by rw[← hb4H.out,decide_eq_false h60];rfl)
    clear h60
    go_wp2
    go_meet
    exact ⟨by rw[he.out],rfl⟩
  case rest=>
  obtain ⟨rfl,rfl⟩:=hcut
  cases b4
  case true=>
   have hck:Hid (c=60∧0<ang t i):=hid (by
    have:=hb4H.out
    rw[Bool.and_eq_true,decide_eq_true_iff,decide_eq_true_iff] at this
    rw[hagH.out];exact this)
   have hab:=zlp t i hck.out.2
   rw[hagH.out,htl.out] at hab
   obtain ⟨hab1,hab2,hab3⟩:=hab
   obtain ⟨am,ham⟩:∃ am,ag=am+1:=⟨ag-1,by omega⟩
   obtain ⟨ad,had⟩:∃ ad,s.extract (i+1) am=ad:=⟨_,rfl⟩
   have hadH:Hid (ad.data.toList=(t.drop (i+1)).take (ang t i-1-(i+1))):=hid (by rw[← had,zcz,htH.out,hagH.out,ham,Nat.add_sub_cancel])
   have hstepH:Hid (zfv t (qs.map Prod.fst) i (qs.map Prod.fst++[zmi ad.data.toList]) (am+1)):=hid ⟨c,hgc.out,by rw[if_neg n1.out,if_neg n2.out,if_neg n3.out,if_pos hck.out,hadH.out];exact ⟨rfl,by rw[hagH.out,ham]⟩⟩
   have hspH:Hid (spB t (am+1)≤qs.length+1):=hid (by
    rw[ham,Nat.add_sub_cancel] at hab3
    rw[zdw t am 62 hab3 (by decide)];omega)
   subst ham
   have hwt:IntKind.i64.wrap (((am+1:Nat):Int)-1)=(am:Int):=by rw[IntKind.wrap_i64];omega
   have hwt3:IntKind.i64.wrap (am:Int)=(am:Int):=by rw[IntKind.wrap_i64];omega
   have hwt4:(am:Int)+1-1=(am:Int):=by omega
   have hJe:(i:Int)+1≤(am:Int):=by omega
   have hJe2:(am:Int)≤(s.size:Int):=by omega
   have hJe3:(0:Int)≤(i:Int)+1:=by omega
   have hton:((i:Int)+1).toNat=i+1:=by omega
   obtain ⟨W2,hW2⟩:∃ W2,W2=wr.alloc (.cells #[.int .i64 0,.int .i64 8,.int .i64 0,.string ⟨#[]⟩,.string ad,.int .i64 0,.slice none 0 0] 118):=⟨_,rfl⟩
   have hb2:Below wr.heap.size wr W2:=by rw[hW2];exact (Below.refl _ _).alloc (Nat.le_refl _) _
   have hx2:W2.heap[wr.heap.size]?=some (.cells #[.int .i64 0,.int .i64 8,.int .i64 0,.string ⟨#[]⟩,.string ad,.int .i64 0,.slice none 0 0] 118 (0,0)):=by rw[hW2];exact za1 _ _
   have hs2:W2.heap.size=wr.heap.size+1:=by rw[hW2];simp
   have hrepH:Hid (RepN W2 (fun x=>wr.heap.size≤x∧x<W2.heap.size) (.slice (some ⟨wr.heap.size,0,none⟩) 1 1) (zmi ad.data.toList).node.kids):=hid (by
    refine RepN.some (ns:=[.nd 8 0 [] ad.data.toList 0 []]) wr.heap.size 0 1 (fun _=>.slice none 0 0) ⟨Nat.le_refl _,by omega⟩ (Nat.le_refl _) (fun j x hj r y hy=>?_) (fun j x hj=>?_)
    ·have hj0:j=0:=by have:=(List.getElem?_eq_some_iff.1 hj).1;simp at this;exact this
     subst hj0
     simp at hj
     subst hj
     have hy2:(#[.int .i64 0,.int .i64 8,.int .i64 0,.string ⟨#[]⟩,.string ad,.int .i64 0,.slice none 0 0]:Array Value)[r]?=some y:=by
      rw[← hy]
      unfold rn7
      simp only[Rn.text,S.zbq,List.getElem?_toArray]
      rfl
     rw[show 0+0*7+r=r by omega]
     exact za0 hx2 r y hy2
    ·have hj0:j=0:=by have:=(List.getElem?_eq_some_iff.1 hj).1;simp at this;exact this
     subst hj0
     simp at hj
     subst hj
     exact .nil)
   have hw1s:wr.heap.size≤W2.heap.size:=by omega
   have hb2H:=hid hb2
   have hs2H:=hid hs2
   have hadx:=had
   clear hb2 hx2 hs2
   have hLk:Hid (pt16 (zmi ad.data.toList) (.slice (some ⟨wr.heap.size,0,none⟩) 1 1)=[.int .i64 1,.string ⟨#[]⟩,.int .i64 0,.int .i64 12,.int .i64 0,.string ad,.string ⟨#[]⟩,.int .i64 0,.slice (some ⟨wr.heap.size,0,none⟩) 1 1,.int .u8 0,.int .i64 0,.int .i64 0,.bool false,.bool false,.bool false,.bool false]):=hid (by
    unfold zmi zcx pt16
    simp only[Rn.info,S.zbq]
    rfl)
   go_wp2_with fail
   refine hAg.out.mono ?_
   rintro e w' ⟨rfl,rfl⟩
   go_upto_region 26 with fail
   have hone:Hid (∀ v∈([.int .i64 1,.string ⟨#[]⟩,.int .i64 0,.int .i64 12,.int .i64 0,.string ad,.string ⟨#[]⟩,.int .i64 0,.slice (some ⟨wr.heap.size,0,none⟩) 1 1,.int .u8 0,.int .i64 0,.int .i64 0,.bool false,.bool false,.bool false,.bool false]:List Value),v.oneCell'=true):=hid (by
    intro v hv;simp only[List.mem_cons,List.not_mem_nil,or_false] at hv;rcases hv with rfl|rfl|rfl|rfl|rfl|rfl|rfl|rfl|rfl|rfl|rfl|rfl|rfl|rfl|rfl|rfl <;> rfl)
   have hnew:Hid (∀ jj v,([.int .i64 1,.string ⟨#[]⟩,.int .i64 0,.int .i64 12,.int .i64 0,.string ad,.string ⟨#[]⟩,.int .i64 0,.slice (some ⟨wr.heap.size,0,none⟩) 1 1,.int .u8 0,.int .i64 0,.int .i64 0,.bool false,.bool false,.bool false,.bool false]:List Value)[jj]?=some v→(W2.alloc (.cells #[.int .i64 1,.string ⟨#[]⟩,.int .i64 0,.int .i64 12,.int .i64 0,.string ad,.string ⟨#[]⟩,.int .i64 0,.slice (some ⟨wr.heap.size,0,none⟩) 1 1,.int .u8 0,.int .i64 0,.int .i64 0,.bool false,.bool false,.bool false,.bool false] 196)).cell? ((⟨wr.heap.size+1,0,none⟩:Addr).add jj)=some v):=hid (fun jj v hj=>by rw[← hs2H.out];exact World.news_of_block (za1 _ _) jj v (by exact hj))
   have hres:Hid (∀ ob g' cap1 w2,w2.ownsRow w.heap.size 196 16 (.slice (some ⟨g',0,none⟩) (qs.length+1) cap1) (qs.length+1) (za9 qs++[.int .i64 1,.string ⟨#[]⟩,.int .i64 0,.int .i64 12,.int .i64 0,.string ad,.string ⟨#[]⟩,.int .i64 0,.slice (some ⟨wr.heap.size,0,none⟩) 1 1,.int .u8 0,.int .i64 0,.int .i64 0,.bool false,.bool false,.bool false,.bool false])→(W2.alloc ob).grownBy w2 (Value.slice a' qs.length cap').ownBlock→((Value.slice a' qs.length cap').ownBlock=some g'∨g'=W2.heap.size+1)→∃ qs',qs'.length=qs.length+1∧WL w t qs' (am+1) (some ⟨g',0,none⟩) cap1 w2):=hid (fun ob g' cap1 w2 h1 h2 h3=>by
    rw[← hLk.out] at h1
    exact hWH.out.push (np:=zmi ad.data.toList) (kv:=.slice (some ⟨wr.heap.size,0,none⟩) 1 1) (hstepH.out) (by omega) (by simp[zmi,zcx]) (by simp[zmi,zcx]) (hspH.out) (hb2H.out) (hrepH.out) h1 h2 h3)
   have hwX:w.heap.size≤W2.heap.size:=by omega
   have hA1:Hid (qs.length+1≤maxLen):=hid (by unfold maxLen;omega)
   have hA2:Hid ((qs.length+1)*144≤140737488355328):=hid (by omega)
   have hA3:Hid (∀ ob,w.heap.size≤(W2.alloc ob).heap.size):=hid (fun ob=>by simp;omega)
   have hA4:Hid (∀ ob,(W2.alloc ob).heap.size=W2.heap.size+1):=hid (fun ob=>by simp)
   have hE1:Hid ((am+1)≤s.size):=hid (by omega)
   have hE2:Hid (qs.length+1≤(am+1)):=hid (by omega)
   have hE3:Hid (s.size-(am+1)<gk):=hid (by have:=hgkH.out;omega)
   subst hW2
   go_wp2_with (at_builtin;refine wpList_append_lies _ (by rfl) _ _ 194 (by rfl) w.heap.size 196 i0 (.agg #[.int .i64 0,.string ⟨#[]⟩,.int .i64 0,.int .i64 0,.int .i64 0,.string ⟨#[]⟩,.string ⟨#[]⟩,.int .i64 0,.slice none 0 0,.int .u8 0,.int .i64 0,.int .i64 0,.bool false,.bool false,.bool false,.bool false]) 16 144 Tryz.underlying194 hi' hi0 hi1 hi2 (by rfl) (by decide) (.slice a' qs.length cap') qs.length (za9 qs) (by rfl) (hown.out _ _ (hb2H.out)) ⟨wr.heap.size+1,0,none⟩ 1 1 [.int .i64 1,.string ⟨#[]⟩,.int .i64 0,.int .i64 12,.int .i64 0,.string ad,.string ⟨#[]⟩,.int .i64 0,.slice (some ⟨wr.heap.size,0,none⟩) 1 1,.int .u8 0,.int .i64 0,.int .i64 0,.bool false,.bool false,.bool false,.bool false] (by rfl) (by rfl) hnew.out hone.out (by decide) hA1.out hA2.out (hA3.out _) (wr.heap.size+1+1) ((hA4.out _).trans (by rw[hs2H.out])) ?_)
   intro g' cap1 w2 hown1 hgrow hat hltg
   have hR:=hid (hres.out _ g' cap1 w2 hown1 hgrow (by rcases hat with h|h;exact .inl h;exact .inr (by rw[hs2H.out];exact h)))
   clear hown1 hgrow hat hltg
   go_wp2
   refine Handed.intro (s.size-(am+1)) hE3.out (hJ _ _ _ ⟨(am+1),qs.length+1,cap1,some ⟨g',0,none⟩,hE1.out,rfl,⟨rfl,rfl,rfl,rfl,rfl⟩,hE2.out,hid (by obtain ⟨q2,h1,h2⟩:=hR.out;exact ⟨q2,h1.symm,h2⟩)⟩)
  case false=>
  have n4:Hid (¬ (c=60∧0<ang t i)):=hid (fun h=>by
   have:=hb4H.out
   rw[decide_eq_true h.1,← hagH.out,decide_eq_true h.2] at this
   cases this)
  clear hb4H
  obtain ⟨b5,hb5⟩:∃ x:Bool,decide (c=10)=x:=⟨_,rfl⟩
  have hb5H:=hid hb5
  clear hb5
  go_upto_region 28 with fail
  go_cut [151] from 152 to 155 (fun sx wx=>sx = .bool b5∧wr=wx)
  case first=>
   have e1:((c.toNat:Int) == 10)=b5:=by
    rw[← hb5H.out,Bool.eq_iff_iff,beq_iff_eq,decide_eq_true_iff,← UInt8.toNat_inj]
    exact ⟨fun h=>by show c.toNat=10;omega,fun h=>by have h2:c.toNat=10:=h;omega⟩
   go_wp2
   go_meet
   exact ⟨rfl,rfl⟩
  case rest=>
  obtain ⟨rfl,rfl⟩:=hcut
  cases b5
  case true=>
   have hck:Hid (c=10):=hid (of_decide_eq_true hb5H.out)
   obtain ⟨sn,hsn⟩:∃ sn,spB t i=sn:=⟨_,rfl⟩
   have hsq:sn≤qs.length:=by rw[← hsn];exact hWH.out.sp
   have hsf:=zw9 t i (by rw[htl.out];omega)
   rw[hsn] at hsf
   obtain ⟨hsni,hsall,hsend⟩:=hsf
   have hsallH:=hid hsall
   have hsendH:=hid hsend
   have hsnH:=hid hsn
   obtain ⟨m0,hm0⟩:∃ m0,qs.length-sn=m0:=⟨_,rfl⟩
   have hm0H:=hid hm0
   have hm0l:m0≤qs.length:=by omega
   obtain ⟨kd,hkd⟩:∃ kd:Int,(if 2≤sn then 10 else 9)=kd:=⟨_,rfl⟩
   have hkdH:=hid hkd
   have hstepH:Hid (zfv t (qs.map Prod.fst) i ((qs.map Prod.fst).take m0++[zg0 kd []]) (i+1)):=hid ⟨c,hgc.out,by rw[if_neg n1.out,if_neg n2.out,if_neg n3.out,if_neg n4.out,if_pos hck.out,hsn,List.length_map,hm0,hkd];exact ⟨rfl,rfl⟩⟩
   have hsp9:Hid (spB t (i+1)=0):=hid (zdw t i c hgc.out (by rw[hck.out];decide))
   have hwli:IntKind.i64.wrap ((i:Int)-1)=(i:Int)-1:=by rw[IntKind.wrap_i64];omega
   have hwlm:IntKind.i64.wrap ((qs.length:Int)-(sn:Int))=(m0:Int):=by rw[IntKind.wrap_i64];omega
   clear hsn hsall hsend hm0 hkd ebn
   go_upto_region 30 with fail
   refine wp_loop_ghost_k (fun k2 ac wx=>∃ n:Nat,n≤sn∧k2=sn-n∧zzi s (.slice a' qs.length cap') (.int .i64 (i:Nat)) (.int .i64 (n:Nat)) ac∧wr=wx) sn ⟨0,Nat.zero_le _,rfl,⟨rfl,rfl,rfl,rfl,rfl,rfl⟩,rfl⟩ ?_
   rintro k2 ac wx ⟨n,hn,hk2,hfrm2,rfl⟩ J2 K2 hJ2 hK2
   obtain ⟨u2,rfl⟩:=hfrm2.out
   clear hfrm2
   by_cases hnl:n<sn
   ·obtain ⟨m,hm⟩:∃ m,i-1-n=m:=⟨_,rfl⟩
    have hms:m<s.size:=by omega
    have h32:s[m]=32:=by
     have h1:=hsallH.out n hnl
     rw[hm,← htH.out,S.zaf s m hms] at h1
     exact Option.some.inj h1
    have e1:((s[m].toNat:Int) == 32)=true:=by rw[h32];rfl
    have hwm:IntKind.i64.wrap ((i:Int)-1-(n:Int))=(m:Int):=by rw[IntKind.wrap_i64];omega
    have hwm2:(i:Int)-1-(n:Int)=(m:Int):=by omega
    have hni:(n:Int)<(i:Int):=by omega
    have hm0':(0:Int)≤(m:Int):=by omega
    have hmI:(m:Int)<(s.size:Int):=by omega
    have hF1:Hid (sn-(n+1)<k2):=hid (by omega)
    have hF2:Hid (n+1≤sn):=hid (by omega)
    clear hm h32 hk2
    go_wp2
    exact Handed.intro (sn-(n+1)) hF1.out (hJ2 _ _ _ ⟨n+1,hF2.out,rfl,⟨rfl,rfl,rfl,rfl,rfl,rfl⟩,rfl⟩)
   ·have hne:n=sn:=by omega
    subst hne
    clear hk2
    by_cases hni:n<i
    ·obtain ⟨m,hm⟩:∃ m,i-1-n=m:=⟨_,rfl⟩
     have hms:m<s.size:=by omega
     have h32:s[m]≠32:=by
      intro h
      have h1:=hsendH.out hni
      rw[hm,← htH.out,S.zaf s m hms,h] at h1
      exact h1 rfl
     have e1:((s[m].toNat:Int) == 32)=false:=by
      rw[beq_eq_false_iff_ne];intro h;exact h32 (UInt8.toNat_inj.1 (by show s[m].toNat=32;omega))
     have hwm:IntKind.i64.wrap ((i:Int)-1-(n:Int))=(m:Int):=by rw[IntKind.wrap_i64];omega
     have hwm2:(i:Int)-1-(n:Int)=(m:Int):=by omega
     have hni':(n:Int)<(i:Int):=by omega
     have hm0':(0:Int)≤(m:Int):=by omega
     have hmI:(m:Int)<(s.size:Int):=by omega
     clear hm h32
     go_upto_if 171 with fail
     go_cut [11] from 156 to 172 (fun sx wx=>sx = .int .i64 kd∧wr=wx)
     case first=>
      by_cases h2:2≤n
      ·have h2':(2:Int)≤(n:Int):=by omega
       have he:Hid (kd=10):=hid (by rw[← hkdH.out,if_pos h2])
       go_wp2
       go_meet
       exact ⟨by rw[he.out],rfl⟩
      ·have h2':¬ (2:Int)≤(n:Int):=by omega
       have he:Hid (kd=9):=hid (by rw[← hkdH.out,if_neg h2])
       go_wp2
       go_meet
       exact ⟨by rw[he.out],rfl⟩
     case rest=>
     obtain ⟨rfl,rfl⟩:=hcut
     have hone:Hid (∀ v∈([.int .i64 1,.string ⟨#[]⟩,.int .i64 0,.int .i64 kd,.int .i64 0,.string ⟨#[]⟩,.string ⟨#[]⟩,.int .i64 0,.slice none 0 0,.int .u8 0,.int .i64 0,.int .i64 0,.bool false,.bool false,.bool false,.bool false]:List Value),v.oneCell'=true):=hid (by
      intro v hv;simp only[List.mem_cons,List.not_mem_nil,or_false] at hv;rcases hv with rfl|rfl|rfl|rfl|rfl|rfl|rfl|rfl|rfl|rfl|rfl|rfl|rfl|rfl|rfl|rfl <;> rfl)
     have hnew:Hid (∀ jj v,([.int .i64 1,.string ⟨#[]⟩,.int .i64 0,.int .i64 kd,.int .i64 0,.string ⟨#[]⟩,.string ⟨#[]⟩,.int .i64 0,.slice none 0 0,.int .u8 0,.int .i64 0,.int .i64 0,.bool false,.bool false,.bool false,.bool false]:List Value)[jj]?=some v→(wr.alloc (.cells #[.int .i64 1,.string ⟨#[]⟩,.int .i64 0,.int .i64 kd,.int .i64 0,.string ⟨#[]⟩,.string ⟨#[]⟩,.int .i64 0,.slice none 0 0,.int .u8 0,.int .i64 0,.int .i64 0,.bool false,.bool false,.bool false,.bool false] 196)).cell? ((⟨wr.heap.size,0,none⟩:Addr).add jj)=some v):=hid (fun jj v hj=>World.news_of_block (za1 _ _) jj v (by exact hj))
     have hres:Hid (∀ ob v w2,w2.ownsRow (wr.heap.size+1) 196 16 v (m0+1) (za9 (qs.take m0)++[.int .i64 1,.string ⟨#[]⟩,.int .i64 0,.int .i64 kd,.int .i64 0,.string ⟨#[]⟩,.string ⟨#[]⟩,.int .i64 0,.slice none 0 0,.int .u8 0,.int .i64 0,.int .i64 0,.bool false,.bool false,.bool false,.bool false])→(wr.alloc ob).grownBy w2 none→∃ qs' g cap1,v = .slice (some ⟨g,0,none⟩) (m0+1) cap1∧qs'.length=m0+1∧WL w t qs' (i+1) (some ⟨g,0,none⟩) cap1 w2):=hid (fun ob v w2 h1 h2=>hWH.out.line (np:=zg0 kd []) hstepH.out hm0l rfl rfl rfl hsp9.out (by have e:(wr.alloc ob).heap.size=wr.heap.size+1:=(by simp);rw[e];exact h1) h2)
     have hlo:Hid ((za9 (qs.take m0)).length=m0*16):=hid (by rw[zbz,List.length_take,Nat.min_eq_left hm0l])
     have hnone:Hid (a'=none→m0=0∧m0=0):=hid (fun e=>by
      subst e
      rcases hWH.out.own.own.2 with ⟨_,h2⟩|⟨_,_,_,h1,_⟩
      ·exact ⟨by omega,by omega⟩
      ·cases h1)
     have holds:Hid (∀ ob b,a'=some b→∀ j u,(za9 (qs.take m0))[j]?=some u→(wr.alloc ob).cell? (b.add j)=some u):=hid (fun ob b e j y hj=>by
      subst e
      have hbX:Below wr.heap.size wr (wr.alloc ob):=(Below.refl _ _).alloc (Nat.le_refl _) ob
      rcases (hWH.out.own.after hbX).row with h|⟨b',o',h1,h2,h3⟩
      ·rw[h] at hj;simp[za9] at hj
      ·injection h1 with h1
       subst h1
       refine PRow.news (fun k x hk jj z hz=>h3 k x ?_ jj z hz) j y hj
       rw[List.getElem?_take] at hk
       split at hk
       ·exact hk
       ·cases hk)
     have hA1:Hid (m0+1≤maxLen):=hid (by unfold maxLen;omega)
     have hA2:Hid ((m0+1)*144≤140737488355328):=hid (by omega)
     have hE1:Hid (i+1≤s.size):=hid (by omega)
     have hE2:Hid (m0+1≤i+1):=hid (by omega)
     have hE3:Hid (s.size-(i+1)<gk):=hid (by have:=hgkH.out;omega)
     have hm1:(0:Int)≤(m0:Int):=by omega
     have hm2:(m0:Int)≤(qs.length:Int):=by omega
     have hqc:qs.length≤cap':=by
      rcases hWH.out.own.own.2 with ⟨h1,h2⟩|⟨_,_,_,h1,_,_,h4,_⟩
      ·omega
      ·injection h1 with _ _ h3;omega
     have hm3:(m0:Int)≤(cap':Int):=by omega
     have hlm:Hid (m0<m0+1):=hid (by omega)
     cases a' with
     | none=>
      go_wp2_with (at_builtin;refine wpList_append_grows _ (by rfl) _ _ 194 (by rfl) 196 i0 (.agg #[.int .i64 0,.string ⟨#[]⟩,.int .i64 0,.int .i64 0,.int .i64 0,.string ⟨#[]⟩,.string ⟨#[]⟩,.int .i64 0,.slice none 0 0,.int .u8 0,.int .i64 0,.int .i64 0,.bool false,.bool false,.bool false,.bool false]) 16 144 Tryz.underlying194 hi' hi0 hi1 hi2 (by rfl) (by decide) none m0 m0 (za9 (qs.take m0)) (by rfl) hnone.out hlo.out (holds.out _) ⟨wr.heap.size,0,none⟩ 1 1 [.int .i64 1,.string ⟨#[]⟩,.int .i64 0,.int .i64 kd,.int .i64 0,.string ⟨#[]⟩,.string ⟨#[]⟩,.int .i64 0,.slice none 0 0,.int .u8 0,.int .i64 0,.int .i64 0,.bool false,.bool false,.bool false,.bool false] (by rfl) (by rfl) hnew.out hone.out hlm.out hA1.out hA2.out ?_)
      intro v w2 hown1 hgrow
      obtain ⟨q2,g,cap1,rfl,h1,h2⟩:=hres.out _ v w2 hown1 hgrow
      have hR:=hid (And.intro h1 h2)
      clear hown1 hgrow h1 h2
      go_wp2
      exact Handed.intro (s.size-(i+1)) hE3.out (hJ _ _ _ ⟨i+1,m0+1,cap1,some ⟨g,0,none⟩,hE1.out,rfl,⟨rfl,rfl,rfl,rfl,rfl⟩,hE2.out,hid ⟨q2,hR.out.1.symm,hR.out.2⟩⟩)
     | some ad=>
      obtain ⟨g0,had⟩:∃ g0,ad=⟨g0,0,none⟩:=by
       rcases hWH.out.own.own.2 with ⟨h1,_⟩|⟨g,_,_,h1,_⟩
       ·cases h1
       ·injection h1 with h1;injection h1 with h1;exact ⟨g,h1⟩
      subst had
      go_wp2_with (at_builtin;refine wpList_append_grows _ (by rfl) _ _ 194 (by rfl) 196 i0 (.agg #[.int .i64 0,.string ⟨#[]⟩,.int .i64 0,.int .i64 0,.int .i64 0,.string ⟨#[]⟩,.string ⟨#[]⟩,.int .i64 0,.slice none 0 0,.int .u8 0,.int .i64 0,.int .i64 0,.bool false,.bool false,.bool false,.bool false]) 16 144 Tryz.underlying194 hi' hi0 hi1 hi2 (by rfl) (by decide) (some ⟨g0,0,none⟩) m0 m0 (za9 (qs.take m0)) (by rfl) (fun h=>by cases h) hlo.out (holds.out _) ⟨wr.heap.size,0,none⟩ 1 1 [.int .i64 1,.string ⟨#[]⟩,.int .i64 0,.int .i64 kd,.int .i64 0,.string ⟨#[]⟩,.string ⟨#[]⟩,.int .i64 0,.slice none 0 0,.int .u8 0,.int .i64 0,.int .i64 0,.bool false,.bool false,.bool false,.bool false] (by rfl) (by rfl) hnew.out hone.out hlm.out hA1.out hA2.out ?_)
      intro v w2 hown1 hgrow
      obtain ⟨q2,g,cap1,rfl,h1,h2⟩:=hres.out _ v w2 hown1 hgrow
      have hR:=hid (And.intro h1 h2)
      clear hown1 hgrow h1 h2
      go_wp2
      exact Handed.intro (s.size-(i+1)) hE3.out (hJ _ _ _ ⟨i+1,m0+1,cap1,some ⟨g,0,none⟩,hE1.out,rfl,⟨rfl,rfl,rfl,rfl,rfl⟩,hE2.out,hid ⟨q2,hR.out.1.symm,hR.out.2⟩⟩)
    ·have hni':¬ (n:Int)<(i:Int):=by omega
     go_upto_if 171 with fail
     go_cut [11] from 156 to 172 (fun sx wx=>sx = .int .i64 kd∧wr=wx)
     case first=>
      by_cases h2:2≤n
      ·have h2':(2:Int)≤(n:Int):=by omega
       have he:Hid (kd=10):=hid (by rw[← hkdH.out,if_pos h2])
       go_wp2
       go_meet
       exact ⟨by rw[he.out],rfl⟩
      ·have h2':¬ (2:Int)≤(n:Int):=by omega
       have he:Hid (kd=9):=hid (by rw[← hkdH.out,if_neg h2])
       go_wp2
       go_meet
       exact ⟨by rw[he.out],rfl⟩
     case rest=>
     obtain ⟨rfl,rfl⟩:=hcut
     have hone:Hid (∀ v∈([.int .i64 1,.string ⟨#[]⟩,.int .i64 0,.int .i64 kd,.int .i64 0,.string ⟨#[]⟩,.string ⟨#[]⟩,.int .i64 0,.slice none 0 0,.int .u8 0,.int .i64 0,.int .i64 0,.bool false,.bool false,.bool false,.bool false]:List Value),v.oneCell'=true):=hid (by
      intro v hv;simp only[List.mem_cons,List.not_mem_nil,or_false] at hv;rcases hv with rfl|rfl|rfl|rfl|rfl|rfl|rfl|rfl|rfl|rfl|rfl|rfl|rfl|rfl|rfl|rfl <;> rfl)
     have hnew:Hid (∀ jj v,([.int .i64 1,.string ⟨#[]⟩,.int .i64 0,.int .i64 kd,.int .i64 0,.string ⟨#[]⟩,.string ⟨#[]⟩,.int .i64 0,.slice none 0 0,.int .u8 0,.int .i64 0,.int .i64 0,.bool false,.bool false,.bool false,.bool false]:List Value)[jj]?=some v→(wr.alloc (.cells #[.int .i64 1,.string ⟨#[]⟩,.int .i64 0,.int .i64 kd,.int .i64 0,.string ⟨#[]⟩,.string ⟨#[]⟩,.int .i64 0,.slice none 0 0,.int .u8 0,.int .i64 0,.int .i64 0,.bool false,.bool false,.bool false,.bool false] 196)).cell? ((⟨wr.heap.size,0,none⟩:Addr).add jj)=some v):=hid (fun jj v hj=>World.news_of_block (za1 _ _) jj v (by exact hj))
     have hres:Hid (∀ ob v w2,w2.ownsRow (wr.heap.size+1) 196 16 v (m0+1) (za9 (qs.take m0)++[.int .i64 1,.string ⟨#[]⟩,.int .i64 0,.int .i64 kd,.int .i64 0,.string ⟨#[]⟩,.string ⟨#[]⟩,.int .i64 0,.slice none 0 0,.int .u8 0,.int .i64 0,.int .i64 0,.bool false,.bool false,.bool false,.bool false])→(wr.alloc ob).grownBy w2 none→∃ qs' g cap1,v = .slice (some ⟨g,0,none⟩) (m0+1) cap1∧qs'.length=m0+1∧WL w t qs' (i+1) (some ⟨g,0,none⟩) cap1 w2):=hid (fun ob v w2 h1 h2=>hWH.out.line (np:=zg0 kd []) hstepH.out hm0l rfl rfl rfl hsp9.out (by have e:(wr.alloc ob).heap.size=wr.heap.size+1:=(by simp);rw[e];exact h1) h2)
     have hlo:Hid ((za9 (qs.take m0)).length=m0*16):=hid (by rw[zbz,List.length_take,Nat.min_eq_left hm0l])
     have hnone:Hid (a'=none→m0=0∧m0=0):=hid (fun e=>by
      subst e
      rcases hWH.out.own.own.2 with ⟨_,h2⟩|⟨_,_,_,h1,_⟩
      ·exact ⟨by omega,by omega⟩
      ·cases h1)
     have holds:Hid (∀ ob b,a'=some b→∀ j u,(za9 (qs.take m0))[j]?=some u→(wr.alloc ob).cell? (b.add j)=some u):=hid (fun ob b e j y hj=>by
      subst e
      have hbX:Below wr.heap.size wr (wr.alloc ob):=(Below.refl _ _).alloc (Nat.le_refl _) ob
      rcases (hWH.out.own.after hbX).row with h|⟨b',o',h1,h2,h3⟩
      ·rw[h] at hj;simp[za9] at hj
      ·injection h1 with h1
       subst h1
       refine PRow.news (fun k x hk jj z hz=>h3 k x ?_ jj z hz) j y hj
       rw[List.getElem?_take] at hk
       split at hk
       ·exact hk
       ·cases hk)
     have hA1:Hid (m0+1≤maxLen):=hid (by unfold maxLen;omega)
     have hA2:Hid ((m0+1)*144≤140737488355328):=hid (by omega)
     have hE1:Hid (i+1≤s.size):=hid (by omega)
     have hE2:Hid (m0+1≤i+1):=hid (by omega)
     have hE3:Hid (s.size-(i+1)<gk):=hid (by have:=hgkH.out;omega)
     have hm1:(0:Int)≤(m0:Int):=by omega
     have hm2:(m0:Int)≤(qs.length:Int):=by omega
     have hqc:qs.length≤cap':=by
      rcases hWH.out.own.own.2 with ⟨h1,h2⟩|⟨_,_,_,h1,_,_,h4,_⟩
      ·omega
      ·injection h1 with _ _ h3;omega
     have hm3:(m0:Int)≤(cap':Int):=by omega
     have hlm:Hid (m0<m0+1):=hid (by omega)
     cases a' with
     | none=>
      go_wp2_with (at_builtin;refine wpList_append_grows _ (by rfl) _ _ 194 (by rfl) 196 i0 (.agg #[.int .i64 0,.string ⟨#[]⟩,.int .i64 0,.int .i64 0,.int .i64 0,.string ⟨#[]⟩,.string ⟨#[]⟩,.int .i64 0,.slice none 0 0,.int .u8 0,.int .i64 0,.int .i64 0,.bool false,.bool false,.bool false,.bool false]) 16 144 Tryz.underlying194 hi' hi0 hi1 hi2 (by rfl) (by decide) none m0 m0 (za9 (qs.take m0)) (by rfl) hnone.out hlo.out (holds.out _) ⟨wr.heap.size,0,none⟩ 1 1 [.int .i64 1,.string ⟨#[]⟩,.int .i64 0,.int .i64 kd,.int .i64 0,.string ⟨#[]⟩,.string ⟨#[]⟩,.int .i64 0,.slice none 0 0,.int .u8 0,.int .i64 0,.int .i64 0,.bool false,.bool false,.bool false,.bool false] (by rfl) (by rfl) hnew.out hone.out hlm.out hA1.out hA2.out ?_)
      intro v w2 hown1 hgrow
      obtain ⟨q2,g,cap1,rfl,h1,h2⟩:=hres.out _ v w2 hown1 hgrow
      have hR:=hid (And.intro h1 h2)
      clear hown1 hgrow h1 h2
      go_wp2
      exact Handed.intro (s.size-(i+1)) hE3.out (hJ _ _ _ ⟨i+1,m0+1,cap1,some ⟨g,0,none⟩,hE1.out,rfl,⟨rfl,rfl,rfl,rfl,rfl⟩,hE2.out,hid ⟨q2,hR.out.1.symm,hR.out.2⟩⟩)
     | some ad=>
      obtain ⟨g0,had⟩:∃ g0,ad=⟨g0,0,none⟩:=by
       rcases hWH.out.own.own.2 with ⟨h1,_⟩|⟨g,_,_,h1,_⟩
       ·cases h1
       ·injection h1 with h1;injection h1 with h1;exact ⟨g,h1⟩
      subst had
      go_wp2_with (at_builtin;refine wpList_append_grows _ (by rfl) _ _ 194 (by rfl) 196 i0 (.agg #[.int .i64 0,.string ⟨#[]⟩,.int .i64 0,.int .i64 0,.int .i64 0,.string ⟨#[]⟩,.string ⟨#[]⟩,.int .i64 0,.slice none 0 0,.int .u8 0,.int .i64 0,.int .i64 0,.bool false,.bool false,.bool false,.bool false]) 16 144 Tryz.underlying194 hi' hi0 hi1 hi2 (by rfl) (by decide) (some ⟨g0,0,none⟩) m0 m0 (za9 (qs.take m0)) (by rfl) (fun h=>by cases h) hlo.out (holds.out _) ⟨wr.heap.size,0,none⟩ 1 1 [.int .i64 1,.string ⟨#[]⟩,.int .i64 0,.int .i64 kd,.int .i64 0,.string ⟨#[]⟩,.string ⟨#[]⟩,.int .i64 0,.slice none 0 0,.int .u8 0,.int .i64 0,.int .i64 0,.bool false,.bool false,.bool false,.bool false] (by rfl) (by rfl) hnew.out hone.out hlm.out hA1.out hA2.out ?_)
      intro v w2 hown1 hgrow
      obtain ⟨q2,g,cap1,rfl,h1,h2⟩:=hres.out _ v w2 hown1 hgrow
      have hR:=hid (And.intro h1 h2)
      clear hown1 hgrow h1 h2
      go_wp2
      exact Handed.intro (s.size-(i+1)) hE3.out (hJ _ _ _ ⟨i+1,m0+1,cap1,some ⟨g,0,none⟩,hE1.out,rfl,⟨rfl,rfl,rfl,rfl,rfl⟩,hE2.out,hid ⟨q2,hR.out.1.symm,hR.out.2⟩⟩)
  case false=>
  have n5:Hid (¬ c=10):=hid (of_decide_eq_false hb5H.out)
  clear hb5H
  obtain ⟨b6,hb6⟩:∃ b6:Bool,decide (c=42∨c=95)=b6:=⟨_,rfl⟩
  have hb6H:=hid hb6
  clear hb6
  go_upto_region 37 with fail
  go_cut [190] from 191 to 200 (fun sx wx=>sx = .bool b6∧wr=wx)
  case first=>
   by_cases h42:c=42
   ·have e1:((c.toNat:Int) == 42)=true:=by rw[h42];rfl
    have he:Hid (b6=true):=hid (by rw[← hb6H.out,decide_eq_true (.inl h42)])
    clear h42
    go_wp2
    go_meet
    exact ⟨by rw[he.out],rfl⟩
   ·have e1:((c.toNat:Int) == 42)=false:=by
     rw[beq_eq_false_iff_ne];intro h;exact h42 (UInt8.toNat_inj.1 (by show c.toNat=42;omega))
    have e2:((c.toNat:Int) == 95)=b6:=by
     rw[← hb6H.out,Bool.eq_iff_iff,beq_iff_eq,decide_eq_true_iff]
     exact ⟨fun h=>.inr (UInt8.toNat_inj.1 (by show c.toNat=95;omega)),fun h=>by rcases h with h|h;exact absurd h h42;rw[h];rfl⟩
    clear h42
    go_wp2
    go_meet
    exact ⟨rfl,rfl⟩
  case rest=>
  obtain ⟨rfl,rfl⟩:=hcut
  cases b6
  case true=>
   have hck:Hid (c=42∨c=95):=hid (of_decide_eq_true hb6H.out)
   obtain ⟨sm,hsm⟩:∃ sm,S.same (t.drop i)=sm:=⟨_,rfl⟩
   obtain ⟨ro,hro⟩:∃ ro,S.zby t i sm=ro:=⟨_,rfl⟩
   obtain ⟨rc,hrc⟩:∃ rc,S.zbe t i sm=rc:=⟨_,rfl⟩
   have hsmb:=zfy s i hlt
   rw[htH.out,hsm] at hsmb
   have hrun:Hid (pt16 (runR t i) (.slice none 0 0)=[.int .i64 2,.string ⟨#[]⟩,.int .i64 0,.int .i64 0,.int .i64 0,.string ⟨#[]⟩,.string ⟨#[]⟩,.int .i64 0,.slice none 0 0,.int .u8 (c.toNat:Int),.int .i64 (sm:Nat),.int .i64 (sm:Nat),.bool ro,.bool rc,.bool false,.bool false]):=hid (by
    unfold runR
    rw[hsm,hro,hrc,hgc.out]
    rfl)
   have hRn:Hid (Calls Tryz.prog 138 #[.string s,.int .i64 (i:Nat)] wr fun e w'=>e = .returned (.agg #[.int .i64 2,.string ⟨#[]⟩,.int .i64 0,.int .i64 0,.int .i64 0,.string ⟨#[]⟩,.string ⟨#[]⟩,.int .i64 0,.slice none 0 0,.int .u8 (c.toNat:Int),.int .i64 (sm:Nat),.int .i64 (sm:Nat),.bool ro,.bool rc,.bool false,.bool false])∧Below wr.heap.size wr w'):=hid ((zxj s i wr hs hlt (by rw[hc];exact hck.out)).mono (fun e w' ⟨h1,h2⟩=>⟨by rw[h1,htH.out];unfold znw;rw[hrun.out],h2⟩))
   have hlast:Hid (t[i+sm-1]?=some c):=hid (by
    have h1:t.drop i=c::t.drop (i+1):=by
     obtain ⟨h2,h3⟩:=List.getElem?_eq_some_iff.1 hgc.out
     rw[List.drop_eq_getElem_cons h2,h3]
    have h4:S.cnt c (t.drop i)=sm:=by rw[← hsm,h1];rfl
    have h5:=zkx c (t.drop i) (sm-1) (by omega)
    rw[List.getElem?_drop] at h5
    rw[← h5];congr 1;omega)
   have hstepH:Hid (zfv t (qs.map Prod.fst) i (qs.map Prod.fst++[runR t i]) (i+sm)):=hid ⟨c,hgc.out,by rw[if_neg n1.out,if_neg n2.out,if_neg n3.out,if_neg n4.out,if_neg n5.out,if_pos hck.out];exact ⟨rfl,by rw[hsm]⟩⟩
   have hspH:Hid (spB t (i+sm)≤qs.length+1):=hid (by
    have:=zdw t (i+sm-1) c hlast.out (by rcases hck.out with h|h <;> (rw[h];decide))
    rw[Nat.sub_add_cancel (by omega)] at this
    omega)
   have hsmH:=hid hsm
   clear hsm hro hrc
   go_wp2_with fail
   refine hRn.out.mono ?_
   rintro e w1 ⟨rfl,hb1⟩
   obtain ⟨W2,hW2⟩:∃ W2,W2=w1.alloc (.cells #[.int .i64 2,.string ⟨#[]⟩,.int .i64 0,.int .i64 0,.int .i64 0,.string ⟨#[]⟩,.string ⟨#[]⟩,.int .i64 0,.slice none 0 0,.int .u8 (c.toNat:Int),.int .i64 (sm:Nat),.int .i64 (sm:Nat),.bool ro,.bool rc,.bool false,.bool false] 196):=⟨_,rfl⟩
   have hb2:Below w1.heap.size w1 W2:=by rw[hW2];exact (Below.refl _ _).alloc (Nat.le_refl _) _
   have hx2:W2.heap[w1.heap.size]?=some (.cells #[.int .i64 2,.string ⟨#[]⟩,.int .i64 0,.int .i64 0,.int .i64 0,.string ⟨#[]⟩,.string ⟨#[]⟩,.int .i64 0,.slice none 0 0,.int .u8 (c.toNat:Int),.int .i64 (sm:Nat),.int .i64 (sm:Nat),.bool ro,.bool rc,.bool false,.bool false] 196 (0,0)):=by rw[hW2];exact za1 _ _
   have hs2:W2.heap.size=w1.heap.size+1:=by rw[hW2];simp
   have hb12:Hid (Below wr.heap.size wr W2):=hid (hb1.trans (hb2.mono hb1.size))
   have hw1s:wr.heap.size≤w1.heap.size:=hb1.size
   have hw2s:w1.heap.size<W2.heap.size:=by omega
   have q0:=za0 hx2 0 _ rfl
   have q1:=za0 hx2 1 _ rfl
   have q2:=za0 hx2 2 _ rfl
   have q3:=za0 hx2 3 _ rfl
   have q4:=za0 hx2 4 _ rfl
   have q5:=za0 hx2 5 _ rfl
   have q6:=za0 hx2 6 _ rfl
   have q7:=za0 hx2 7 _ rfl
   have q8:=za0 hx2 8 _ rfl
   have q9:=za0 hx2 9 _ rfl
   have q10:=za0 hx2 10 _ rfl
   have q11:=za0 hx2 11 _ rfl
   have q12:=za0 hx2 12 _ rfl
   have q13:=za0 hx2 13 _ rfl
   have q14:=za0 hx2 14 _ rfl
   have q15:=za0 hx2 15 _ rfl
   have hW2H:=hid hW2
   have hx2H:=hid hx2
   clear hW2 hb2 hx2 hs2 hb1
   go_upto_region 39 with fail
   rw[← hW2H.out]
   have hone:Hid (∀ v∈([.int .i64 2,.string ⟨#[]⟩,.int .i64 0,.int .i64 0,.int .i64 0,.string ⟨#[]⟩,.string ⟨#[]⟩,.int .i64 0,.slice none 0 0,.int .u8 (c.toNat:Int),.int .i64 (sm:Nat),.int .i64 (sm:Nat),.bool ro,.bool rc,.bool false,.bool false]:List Value),v.oneCell'=true):=hid (by
    intro v hv;simp only[List.mem_cons,List.not_mem_nil,or_false] at hv;rcases hv with rfl|rfl|rfl|rfl|rfl|rfl|rfl|rfl|rfl|rfl|rfl|rfl|rfl|rfl|rfl|rfl <;> rfl)
   have hnew:Hid (∀ jj v,([.int .i64 2,.string ⟨#[]⟩,.int .i64 0,.int .i64 0,.int .i64 0,.string ⟨#[]⟩,.string ⟨#[]⟩,.int .i64 0,.slice none 0 0,.int .u8 (c.toNat:Int),.int .i64 (sm:Nat),.int .i64 (sm:Nat),.bool ro,.bool rc,.bool false,.bool false]:List Value)[jj]?=some v→(W2.alloc (.cells #[.int .i64 2,.string ⟨#[]⟩,.int .i64 0,.int .i64 0,.int .i64 0,.string ⟨#[]⟩,.string ⟨#[]⟩,.int .i64 0,.slice none 0 0,.int .u8 (c.toNat:Int),.int .i64 (sm:Nat),.int .i64 (sm:Nat),.bool ro,.bool rc,.bool false,.bool false] 196)).cell? ((⟨W2.heap.size,0,none⟩:Addr).add jj)=some v):=hid (fun jj v hj=>World.news_of_block (za1 _ _) jj v (by exact hj))
   have hres:Hid (∀ ob g' cap1 w2,w2.ownsRow w.heap.size 196 16 (.slice (some ⟨g',0,none⟩) (qs.length+1) cap1) (qs.length+1) (za9 qs++[.int .i64 2,.string ⟨#[]⟩,.int .i64 0,.int .i64 0,.int .i64 0,.string ⟨#[]⟩,.string ⟨#[]⟩,.int .i64 0,.slice none 0 0,.int .u8 (c.toNat:Int),.int .i64 (sm:Nat),.int .i64 (sm:Nat),.bool ro,.bool rc,.bool false,.bool false])→(W2.alloc ob).grownBy w2 (Value.slice a' qs.length cap').ownBlock→((Value.slice a' qs.length cap').ownBlock=some g'∨g'=W2.heap.size+1)→∃ qs',qs'.length=qs.length+1∧WL w t qs' (i+sm) (some ⟨g',0,none⟩) cap1 w2):=hid (fun ob g' cap1 w2 h1 h2 h3=>by
    rw[← hrun.out] at h1
    exact hWH.out.push (np:=runR t i) (kv:=.slice none 0 0) (hstepH.out) (by omega) (by show (0:Nat)+S.same (t.drop i)≤_;rw[hsmH.out];omega) (by show S.same (t.drop i)≤_;rw[hsmH.out];omega) (hspH.out) (hb12.out) (.nil) h1 h2 h3)
   have hwX:w.heap.size≤W2.heap.size:=by omega
   have hA1:Hid (qs.length+1≤maxLen):=hid (by unfold maxLen;omega)
   have hA2:Hid ((qs.length+1)*144≤140737488355328):=hid (by omega)
   have hA3:Hid (∀ ob,w.heap.size≤(W2.alloc ob).heap.size):=hid (fun ob=>by simp;omega)
   have hA4:Hid (∀ ob,(W2.alloc ob).heap.size=W2.heap.size+1):=hid (fun ob=>by simp)
   have hE1:Hid ((i+sm)≤s.size):=hid (by omega)
   have hE2:Hid (qs.length+1≤(i+sm)):=hid (by omega)
   have hE3:Hid (s.size-(i+sm)<gk):=hid (by have:=hgkH.out;omega)
   go_wp2_with (at_builtin;refine wpList_append_lies _ (by rfl) _ _ 194 (by rfl) w.heap.size 196 i0 (.agg #[.int .i64 0,.string ⟨#[]⟩,.int .i64 0,.int .i64 0,.int .i64 0,.string ⟨#[]⟩,.string ⟨#[]⟩,.int .i64 0,.slice none 0 0,.int .u8 0,.int .i64 0,.int .i64 0,.bool false,.bool false,.bool false,.bool false]) 16 144 Tryz.underlying194 hi' hi0 hi1 hi2 (by rfl) (by decide) (.slice a' qs.length cap') qs.length (za9 qs) (by rfl) (hown.out W2 _ (hb12.out)) ⟨W2.heap.size,0,none⟩ 1 1 [.int .i64 2,.string ⟨#[]⟩,.int .i64 0,.int .i64 0,.int .i64 0,.string ⟨#[]⟩,.string ⟨#[]⟩,.int .i64 0,.slice none 0 0,.int .u8 (c.toNat:Int),.int .i64 (sm:Nat),.int .i64 (sm:Nat),.bool ro,.bool rc,.bool false,.bool false] (by rfl) (by rfl) hnew.out hone.out (by decide) hA1.out hA2.out (hA3.out _) (W2.heap.size+1) (hA4.out _) ?_)
   intro g' cap1 w2 hown1 hgrow hat hltg
   have hR:=hid (hres.out _ g' cap1 w2 hown1 hgrow hat)
   have hN10:w2.cell? ⟨w1.heap.size,10,none⟩=some (.int .i64 (sm:Nat)):=by
    have hx9:w2.heap[w1.heap.size]?=_:=(hgrow.block w1.heap.size (by have:=hA4.out (.cells #[.int .i64 2,.string ⟨#[]⟩,.int .i64 0,.int .i64 0,.int .i64 0,.string ⟨#[]⟩,.string ⟨#[]⟩,.int .i64 0,.slice none 0 0,.int .u8 (c.toNat:Int),.int .i64 (sm:Nat),.int .i64 (sm:Nat),.bool ro,.bool rc,.bool false,.bool false] 196);omega) (fun e=>by have:=(hWH.out.own.own.lt _ e.symm).2;omega)).trans ((((Below.refl W2.heap.size W2).alloc (Nat.le_refl _) _).block w1.heap.size hw2s).trans hx2H.out)
    exact za0 hx9 10 _ rfl
   have hw12s:w1.heap.size<w2.heap.size:=by have:=hgrow.size;have:=hA4.out (.cells #[.int .i64 2,.string ⟨#[]⟩,.int .i64 0,.int .i64 0,.int .i64 0,.string ⟨#[]⟩,.string ⟨#[]⟩,.int .i64 0,.slice none 0 0,.int .u8 (c.toNat:Int),.int .i64 (sm:Nat),.int .i64 (sm:Nat),.bool ro,.bool rc,.bool false,.bool false] 196);omega
   have hwim:IntKind.i64.wrap ((i:Int)+(sm:Int))=(i:Int)+(sm:Int):=by rw[IntKind.wrap_i64];omega
   clear hown1 hgrow hat hltg
   go_wp2
   refine Handed.intro (s.size-(i+sm)) hE3.out (hJ _ _ _ ⟨(i+sm),qs.length+1,cap1,some ⟨g',0,none⟩,hE1.out,rfl,⟨rfl,rfl,rfl,rfl,rfl⟩,hE2.out,hid (by obtain ⟨q2,h1,h2⟩:=hR.out;exact ⟨q2,h1.symm,h2⟩)⟩)
  case false=>
  have n6:Hid (¬ (c=42∨c=95)):=hid (of_decide_eq_false hb6H.out)
  clear hb6H
  obtain ⟨b7,hb7⟩:∃ x:Bool,decide (c=91)=x:=⟨_,rfl⟩
  have hb7H:=hid hb7
  clear hb7
  go_upto_region 41 with fail
  go_cut [212] from 213 to 216 (fun sx wx=>sx = .bool b7∧wr=wx)
  case first=>
   have e1:((c.toNat:Int) == 91)=b7:=by
    rw[← hb7H.out,Bool.eq_iff_iff,beq_iff_eq,decide_eq_true_iff,← UInt8.toNat_inj]
    exact ⟨fun h=>by show c.toNat=91;omega,fun h=>by have h2:c.toNat=91:=h;omega⟩
   go_wp2
   go_meet
   exact ⟨rfl,rfl⟩
  case rest=>
  obtain ⟨rfl,rfl⟩:=hcut
  cases b7
  case true=>
   have hck:Hid (c=91):=hid (of_decide_eq_true hb7H.out)
   have hstepH:Hid (zfv t (qs.map Prod.fst) i (qs.map Prod.fst++[zgt [91] false]) (i+1)):=hid ⟨c,hgc.out,by rw[if_neg n1.out,if_neg n2.out,if_neg n3.out,if_neg n4.out,if_neg n5.out,if_neg n6.out,if_pos hck.out];exact ⟨rfl,rfl⟩⟩
   have hspH:=hid (hsp0.out i c hgc.out (by rw[hck.out];decide))
   have hone:Hid (∀ v∈([.int .i64 3,.string ⟨#[91]⟩,.int .i64 0,.int .i64 0,.int .i64 0,.string ⟨#[]⟩,.string ⟨#[]⟩,.int .i64 0,.slice none 0 0,.int .u8 0,.int .i64 0,.int .i64 0,.bool false,.bool false,.bool false,.bool false]:List Value),v.oneCell'=true):=hid (by
    intro v hv;simp only[List.mem_cons,List.not_mem_nil,or_false] at hv;rcases hv with rfl|rfl|rfl|rfl|rfl|rfl|rfl|rfl|rfl|rfl|rfl|rfl|rfl|rfl|rfl|rfl <;> rfl)
   have hnew:Hid (∀ jj v,([.int .i64 3,.string ⟨#[91]⟩,.int .i64 0,.int .i64 0,.int .i64 0,.string ⟨#[]⟩,.string ⟨#[]⟩,.int .i64 0,.slice none 0 0,.int .u8 0,.int .i64 0,.int .i64 0,.bool false,.bool false,.bool false,.bool false]:List Value)[jj]?=some v→(wr.alloc (.cells #[.int .i64 3,.string ⟨#[91]⟩,.int .i64 0,.int .i64 0,.int .i64 0,.string ⟨#[]⟩,.string ⟨#[]⟩,.int .i64 0,.slice none 0 0,.int .u8 0,.int .i64 0,.int .i64 0,.bool false,.bool false,.bool false,.bool false] 196)).cell? ((⟨wr.heap.size,0,none⟩:Addr).add jj)=some v):=hid (fun jj v hj=>World.news_of_block (za1 _ _) jj v (by exact hj))
   have hres:Hid (∀ ob g' cap1 w2,w2.ownsRow w.heap.size 196 16 (.slice (some ⟨g',0,none⟩) (qs.length+1) cap1) (qs.length+1) (za9 qs++[.int .i64 3,.string ⟨#[91]⟩,.int .i64 0,.int .i64 0,.int .i64 0,.string ⟨#[]⟩,.string ⟨#[]⟩,.int .i64 0,.slice none 0 0,.int .u8 0,.int .i64 0,.int .i64 0,.bool false,.bool false,.bool false,.bool false])→(wr.alloc ob).grownBy w2 (Value.slice a' qs.length cap').ownBlock→((Value.slice a' qs.length cap').ownBlock=some g'∨g'=wr.heap.size+1)→∃ qs',qs'.length=qs.length+1∧WL w t qs' (i+1) (some ⟨g',0,none⟩) cap1 w2):=hid (fun ob g' cap1 w2 h1 h2 h3=>by
    exact hWH.out.push (np:=zgt [91] false) (kv:=.slice none 0 0) (hstepH.out) (by omega) (by simp[zgt]) (by simp[zgt]) (hspH.out) (Below.refl _ _) (.nil) h1 h2 h3)
   have hwX:w.heap.size≤wr.heap.size:=by omega
   have hA1:Hid (qs.length+1≤maxLen):=hid (by unfold maxLen;omega)
   have hA2:Hid ((qs.length+1)*144≤140737488355328):=hid (by omega)
   have hA3:Hid (∀ ob,w.heap.size≤(wr.alloc ob).heap.size):=hid (fun ob=>by simp;omega)
   have hA4:Hid (∀ ob,(wr.alloc ob).heap.size=wr.heap.size+1):=hid (fun ob=>by simp)
   have hE1:Hid ((i+1)≤s.size):=hid (by omega)
   have hE2:Hid (qs.length+1≤(i+1)):=hid (by omega)
   have hE3:Hid (s.size-(i+1)<gk):=hid (by have:=hgkH.out;omega)
   go_wp2_with (at_builtin;refine wpList_append_lies _ (by rfl) _ _ 194 (by rfl) w.heap.size 196 i0 (.agg #[.int .i64 0,.string ⟨#[]⟩,.int .i64 0,.int .i64 0,.int .i64 0,.string ⟨#[]⟩,.string ⟨#[]⟩,.int .i64 0,.slice none 0 0,.int .u8 0,.int .i64 0,.int .i64 0,.bool false,.bool false,.bool false,.bool false]) 16 144 Tryz.underlying194 hi' hi0 hi1 hi2 (by rfl) (by decide) (.slice a' qs.length cap') qs.length (za9 qs) (by rfl) (hown.out wr _ (Below.refl _ _)) ⟨wr.heap.size,0,none⟩ 1 1 [.int .i64 3,.string ⟨#[91]⟩,.int .i64 0,.int .i64 0,.int .i64 0,.string ⟨#[]⟩,.string ⟨#[]⟩,.int .i64 0,.slice none 0 0,.int .u8 0,.int .i64 0,.int .i64 0,.bool false,.bool false,.bool false,.bool false] (by rfl) (by rfl) hnew.out hone.out (by decide) hA1.out hA2.out (hA3.out _) (wr.heap.size+1) (hA4.out _) ?_)
   intro g' cap1 w2 hown1 hgrow hat hltg
   have hR:=hid (hres.out _ g' cap1 w2 hown1 hgrow hat)
   clear hown1 hgrow hat hltg
   go_wp2
   refine Handed.intro (s.size-(i+1)) hE3.out (hJ _ _ _ ⟨(i+1),qs.length+1,cap1,some ⟨g',0,none⟩,hE1.out,rfl,⟨rfl,rfl,rfl,rfl,rfl⟩,hE2.out,hid (by obtain ⟨q2,h1,h2⟩:=hR.out;exact ⟨q2,h1.symm,h2⟩)⟩)
  case false=>
  have n7:Hid (¬ c=91):=hid (of_decide_eq_false hb7H.out)
  clear hb7H
  obtain ⟨b8,hb8⟩:∃ b8:Bool,(decide (c=33) && decide (t[i+1]?=some 91))=b8:=⟨_,rfl⟩
  have hb8H:=hid hb8
  clear hb8
  have e91:(nx.toList == [91])=decide (t[i+1]?=some 91):=by
   rw[hnlH.out]
   cases h:t[i+1]? with
   | none=>rw[List.drop_eq_nil_of_le (List.getElem?_eq_none_iff.1 h)];rfl
   | some d=>
    obtain ⟨h1,h2⟩:=List.getElem?_eq_some_iff.1 h
    rw[List.drop_eq_getElem_cons h1,h2,List.take_succ_cons,List.take_zero]
    by_cases e:d=91
    ·subst e;rfl
    ·rw[decide_eq_false (by simpa using e)];simp[e]
  obtain ⟨bo,hbo⟩:∃ bo,decide (t[i+1]?=some 91)=bo:=⟨_,rfl⟩
  rw[hbo] at e91
  have hboH:=hid hbo
  clear hbo ebn
  go_upto_region 44 with fail
  go_cut [223] from 224 to 231 (fun sx wx=>sx = .bool b8∧wr=wx)
  case first=>
   by_cases h33:c=33
   ·have e1:((c.toNat:Int) == 33)=true:=by rw[h33];rfl
    have he:Hid (b8=bo):=hid (by rw[← hb8H.out,decide_eq_true h33,Bool.true_and,hboH.out])
    clear h33
    go_wp2
    go_meet
    exact ⟨by rw[he.out],rfl⟩
   ·have e1:((c.toNat:Int) == 33)=false:=by
     rw[beq_eq_false_iff_ne];intro h;exact h33 (UInt8.toNat_inj.1 (by show c.toNat=33;omega))
    have he:Hid (b8=false):=hid (by rw[← hb8H.out,decide_eq_false h33];rfl)
    clear h33
    go_wp2
    go_meet
    exact ⟨by rw[he.out],rfl⟩
  case rest=>
  obtain ⟨rfl,rfl⟩:=hcut
  clear e91
  cases b8
  case true=>
   have hcc:Hid (c=33∧t[i+1]?=some 91):=hid (by
    have:=hb8H.out
    rw[Bool.and_eq_true,decide_eq_true_iff,decide_eq_true_iff] at this
    exact this)
   have hi2s:i+2≤s.size:=by
    have:=(List.getElem?_eq_some_iff.1 hcc.out.2).1
    rw[htl.out] at this;omega
   have hstepH:Hid (zfv t (qs.map Prod.fst) i (qs.map Prod.fst++[zgt [33,91] true]) (i+2)):=hid ⟨c,hgc.out,by rw[if_neg n1.out,if_neg n2.out,if_neg n3.out,if_neg n4.out,if_neg n5.out,if_neg n6.out,if_neg n7.out,if_pos hcc.out];exact ⟨rfl,rfl⟩⟩
   have hspH:=hid (hsp0.out (i+1) 91 hcc.out.2 (by decide))
   have hone:Hid (∀ v∈([.int .i64 3,.string ⟨#[33,91]⟩,.int .i64 0,.int .i64 0,.int .i64 0,.string ⟨#[]⟩,.string ⟨#[]⟩,.int .i64 0,.slice none 0 0,.int .u8 0,.int .i64 0,.int .i64 0,.bool false,.bool false,.bool true,.bool false]:List Value),v.oneCell'=true):=hid (by
    intro v hv;simp only[List.mem_cons,List.not_mem_nil,or_false] at hv;rcases hv with rfl|rfl|rfl|rfl|rfl|rfl|rfl|rfl|rfl|rfl|rfl|rfl|rfl|rfl|rfl|rfl <;> rfl)
   have hnew:Hid (∀ jj v,([.int .i64 3,.string ⟨#[33,91]⟩,.int .i64 0,.int .i64 0,.int .i64 0,.string ⟨#[]⟩,.string ⟨#[]⟩,.int .i64 0,.slice none 0 0,.int .u8 0,.int .i64 0,.int .i64 0,.bool false,.bool false,.bool true,.bool false]:List Value)[jj]?=some v→(wr.alloc (.cells #[.int .i64 3,.string ⟨#[33,91]⟩,.int .i64 0,.int .i64 0,.int .i64 0,.string ⟨#[]⟩,.string ⟨#[]⟩,.int .i64 0,.slice none 0 0,.int .u8 0,.int .i64 0,.int .i64 0,.bool false,.bool false,.bool true,.bool false] 196)).cell? ((⟨wr.heap.size,0,none⟩:Addr).add jj)=some v):=hid (fun jj v hj=>World.news_of_block (za1 _ _) jj v (by exact hj))
   have hres:Hid (∀ ob g' cap1 w2,w2.ownsRow w.heap.size 196 16 (.slice (some ⟨g',0,none⟩) (qs.length+1) cap1) (qs.length+1) (za9 qs++[.int .i64 3,.string ⟨#[33,91]⟩,.int .i64 0,.int .i64 0,.int .i64 0,.string ⟨#[]⟩,.string ⟨#[]⟩,.int .i64 0,.slice none 0 0,.int .u8 0,.int .i64 0,.int .i64 0,.bool false,.bool false,.bool true,.bool false])→(wr.alloc ob).grownBy w2 (Value.slice a' qs.length cap').ownBlock→((Value.slice a' qs.length cap').ownBlock=some g'∨g'=wr.heap.size+1)→∃ qs',qs'.length=qs.length+1∧WL w t qs' (i+2) (some ⟨g',0,none⟩) cap1 w2):=hid (fun ob g' cap1 w2 h1 h2 h3=>by
    exact hWH.out.push (np:=zgt [33,91] true) (kv:=.slice none 0 0) (hstepH.out) (by omega) (by simp[zgt]) (by simp[zgt]) (hspH.out) (Below.refl _ _) (.nil) h1 h2 h3)
   have hwX:w.heap.size≤wr.heap.size:=by omega
   have hA1:Hid (qs.length+1≤maxLen):=hid (by unfold maxLen;omega)
   have hA2:Hid ((qs.length+1)*144≤140737488355328):=hid (by omega)
   have hA3:Hid (∀ ob,w.heap.size≤(wr.alloc ob).heap.size):=hid (fun ob=>by simp;omega)
   have hA4:Hid (∀ ob,(wr.alloc ob).heap.size=wr.heap.size+1):=hid (fun ob=>by simp)
   have hE1:Hid ((i+2)≤s.size):=hid (by omega)
   have hE2:Hid (qs.length+1≤(i+2)):=hid (by omega)
   have hE3:Hid (s.size-(i+2)<gk):=hid (by have:=hgkH.out;omega)
   go_wp2_with (at_builtin;refine wpList_append_lies _ (by rfl) _ _ 194 (by rfl) w.heap.size 196 i0 (.agg #[.int .i64 0,.string ⟨#[]⟩,.int .i64 0,.int .i64 0,.int .i64 0,.string ⟨#[]⟩,.string ⟨#[]⟩,.int .i64 0,.slice none 0 0,.int .u8 0,.int .i64 0,.int .i64 0,.bool false,.bool false,.bool false,.bool false]) 16 144 Tryz.underlying194 hi' hi0 hi1 hi2 (by rfl) (by decide) (.slice a' qs.length cap') qs.length (za9 qs) (by rfl) (hown.out wr _ (Below.refl _ _)) ⟨wr.heap.size,0,none⟩ 1 1 [.int .i64 3,.string ⟨#[33,91]⟩,.int .i64 0,.int .i64 0,.int .i64 0,.string ⟨#[]⟩,.string ⟨#[]⟩,.int .i64 0,.slice none 0 0,.int .u8 0,.int .i64 0,.int .i64 0,.bool false,.bool false,.bool true,.bool false] (by rfl) (by rfl) hnew.out hone.out (by decide) hA1.out hA2.out (hA3.out _) (wr.heap.size+1) (hA4.out _) ?_)
   intro g' cap1 w2 hown1 hgrow hat hltg
   have hR:=hid (hres.out _ g' cap1 w2 hown1 hgrow hat)
   clear hown1 hgrow hat hltg
   go_wp2
   refine Handed.intro (s.size-(i+2)) hE3.out (hJ _ _ _ ⟨(i+2),qs.length+1,cap1,some ⟨g',0,none⟩,hE1.out,rfl,⟨rfl,rfl,rfl,rfl,rfl⟩,hE2.out,hid (by obtain ⟨q2,h1,h2⟩:=hR.out;exact ⟨q2,h1.symm,h2⟩)⟩)
  case false=>
  have n8:Hid (¬ (c=33∧t[i+1]?=some 91)):=hid (fun h=>by
   have:=hb8H.out
   rw[decide_eq_true h.1,decide_eq_true h.2] at this
   cases this)
  clear hb8H
  obtain ⟨b9,hb9⟩:∃ x:Bool,decide (c=93)=x:=⟨_,rfl⟩
  have hb9H:=hid hb9
  clear hb9
  go_upto_region 47 with fail
  go_cut [238] from 239 to 242 (fun sx wx=>sx = .bool b9∧wr=wx)
  case first=>
   have e1:((c.toNat:Int) == 93)=b9:=by
    rw[← hb9H.out,Bool.eq_iff_iff,beq_iff_eq,decide_eq_true_iff,← UInt8.toNat_inj]
    exact ⟨fun h=>by show c.toNat=93;omega,fun h=>by have h2:c.toNat=93:=h;omega⟩
   go_wp2
   go_meet
   exact ⟨rfl,rfl⟩
  case rest=>
  obtain ⟨rfl,rfl⟩:=hcut
  cases b9
  case true=>
   have hck:Hid (c=93):=hid (of_decide_eq_true hb9H.out)
   have hc93:Hid (t[i]?=some 93):=hid (by rw[hgc.out,hck.out])
   have hCl:Hid (Calls Tryz.prog 139 #[.slice a' qs.length cap',.string s,.int .i64 (i:Nat)] wr fun e w'=>∃ (n2 cap2 p2:Nat) (a2:Option Addr),e = .returned (.tuple #[.slice a2 n2 cap2,.int .i64 (p2:Nat)])∧Hid (p2≤s.size∧s.size-p2<gk∧n2≤p2∧∃ qs',n2=qs'.length∧WL w t qs' p2 a2 cap2 w')):=hid (by
    have:=zr2 w.heap.size a' cap' qs s i wr hWH.out.own hwsz hs hlt (by have:=hWH.out.tot;omega) hWH.out.nums
    rw[htH.out] at this
    refine this.mono ?_
    rintro e w2 ⟨qs',a2,cap2,p2,rfl,h⟩
    obtain ⟨h1,h2,h3⟩:=h.out
    have hpl:=h2.place hc93.out
    have hst:zfv t (qs.map Prod.fst) i (qs'.map Prod.fst) p2:=⟨c,hgc.out,by rw[if_neg n1.out,if_neg n2.out,if_neg n3.out,if_neg n4.out,if_neg n5.out,if_neg n6.out,if_neg n7.out,if_neg n8.out,if_pos hck.out];exact h2⟩
    have hW2:=hWH.out.closed hc93.out hst h2 h1 h3
    exact ⟨qs'.length,cap2,p2,a2,rfl,hid ⟨by rw[← htl.out];exact hpl.2.1,by have:=hgkH.out;omega,hW2.len,qs',rfl,hW2⟩⟩)
   go_wp2_with fail
   refine hCl.out.mono ?_
   rintro e w2 ⟨n2,cap2,p2,a2,rfl,hU⟩
   go_wp2
   exact Handed.intro (s.size-p2) hU.out.2.1 (hJ _ _ _ ⟨p2,n2,cap2,a2,hU.out.1,rfl,⟨rfl,rfl,rfl,rfl,rfl⟩,hU.out.2.2.1,hid hU.out.2.2.2⟩)
  case false=>
  have n9:Hid (¬ c=93):=hid (of_decide_eq_false hb9H.out)
  clear hb9H
  have hcb:Hid ((s.extract i (i+1)).data.toList=(t.drop i).take 1):=hid (by rw[zcz,htH.out,show i+1-i=1 by omega])
  obtain ⟨sb,hsb⟩:∃ sb,s.extract i (i+1)=sb:=⟨_,rfl⟩
  rw[hsb] at hcb
  have hTx:Hid (Calls Tryz.prog 134 #[.string sb] wr fun e w'=>e = .returned (.agg #[.int .i64 0,.string sb,.int .i64 0,.int .i64 0,.int .i64 0,.string ⟨#[]⟩,.string ⟨#[]⟩,.int .i64 0,.slice none 0 0,.int .u8 0,.int .i64 0,.int .i64 0,.bool false,.bool false,.bool false,.bool false])∧Below wr.heap.size wr w'):=hid ((ziz sb wr).mono (fun e w' ⟨h1,h2⟩=>⟨by rw[h1];unfold znw pt16 txtR;simp only[S.zbq];rfl,h2⟩))
  have hstepH:Hid (zfv t (qs.map Prod.fst) i (qs.map Prod.fst++[txtR ((t.drop i).take 1)]) (i+1)):=hid ⟨c,hgc.out,by rw[if_neg n1.out,if_neg n2.out,if_neg n3.out,if_neg n4.out,if_neg n5.out,if_neg n6.out,if_neg n7.out,if_neg n8.out,if_neg n9.out];exact ⟨rfl,rfl⟩⟩
  have hspH:Hid (spB t (i+1)≤qs.length+1):=hid (by
   rw[zoi t i c hgc.out]
   have:=hWH.out.sp
   split <;> omega)
  have hJe:(i:Int)+1≤(s.size:Int):=by omega
  have hJe2:(i:Int)≤(i:Int)+1:=by omega
  have hton:((i:Int)+1).toNat=i+1:=by omega
  go_wp2_with fail
  refine hTx.out.mono ?_
  rintro e w1 ⟨rfl,hb1⟩
  have hb1H:=hid hb1
  have hw1s:wr.heap.size≤w1.heap.size:=hb1.size
  clear hb1
  have hone:Hid (∀ v∈([.int .i64 0,.string sb,.int .i64 0,.int .i64 0,.int .i64 0,.string ⟨#[]⟩,.string ⟨#[]⟩,.int .i64 0,.slice none 0 0,.int .u8 0,.int .i64 0,.int .i64 0,.bool false,.bool false,.bool false,.bool false]:List Value),v.oneCell'=true):=hid (by
   intro v hv;simp only[List.mem_cons,List.not_mem_nil,or_false] at hv;rcases hv with rfl|rfl|rfl|rfl|rfl|rfl|rfl|rfl|rfl|rfl|rfl|rfl|rfl|rfl|rfl|rfl <;> rfl)
  have hnew:Hid (∀ jj v,([.int .i64 0,.string sb,.int .i64 0,.int .i64 0,.int .i64 0,.string ⟨#[]⟩,.string ⟨#[]⟩,.int .i64 0,.slice none 0 0,.int .u8 0,.int .i64 0,.int .i64 0,.bool false,.bool false,.bool false,.bool false]:List Value)[jj]?=some v→(w1.alloc (.cells #[.int .i64 0,.string sb,.int .i64 0,.int .i64 0,.int .i64 0,.string ⟨#[]⟩,.string ⟨#[]⟩,.int .i64 0,.slice none 0 0,.int .u8 0,.int .i64 0,.int .i64 0,.bool false,.bool false,.bool false,.bool false] 196)).cell? ((⟨w1.heap.size,0,none⟩:Addr).add jj)=some v):=hid (fun jj v hj=>World.news_of_block (za1 _ _) jj v (by exact hj))
  have hres:Hid (∀ ob g' cap1 w2,w2.ownsRow w.heap.size 196 16 (.slice (some ⟨g',0,none⟩) (qs.length+1) cap1) (qs.length+1) (za9 qs++[.int .i64 0,.string sb,.int .i64 0,.int .i64 0,.int .i64 0,.string ⟨#[]⟩,.string ⟨#[]⟩,.int .i64 0,.slice none 0 0,.int .u8 0,.int .i64 0,.int .i64 0,.bool false,.bool false,.bool false,.bool false])→(w1.alloc ob).grownBy w2 (Value.slice a' qs.length cap').ownBlock→((Value.slice a' qs.length cap').ownBlock=some g'∨g'=w1.heap.size+1)→∃ qs',qs'.length=qs.length+1∧WL w t qs' (i+1) (some ⟨g',0,none⟩) cap1 w2):=hid (fun ob g' cap1 w2 h1 h2 h3=>by
   have e:pt16 (txtR ((t.drop i).take 1)) (.slice none 0 0)=[.int .i64 0,.string sb,.int .i64 0,.int .i64 0,.int .i64 0,.string ⟨#[]⟩,.string ⟨#[]⟩,.int .i64 0,.slice none 0 0,.int .u8 0,.int .i64 0,.int .i64 0,.bool false,.bool false,.bool false,.bool false]:=by rw[← hcb.out];unfold pt16 txtR;simp only[S.zbq];rfl
   rw[← e] at h1
   exact hWH.out.push (np:=txtR ((t.drop i).take 1)) (kv:=.slice none 0 0) (hstepH.out) (by omega) (by simp[txtR];omega) (by simp[txtR]) (hspH.out) (hb1H.out) (.nil) h1 h2 h3)
  have hwX:w.heap.size≤w1.heap.size:=by omega
  have hA1:Hid (qs.length+1≤maxLen):=hid (by unfold maxLen;omega)
  have hA2:Hid ((qs.length+1)*144≤140737488355328):=hid (by omega)
  have hA3:Hid (∀ ob,w.heap.size≤(w1.alloc ob).heap.size):=hid (fun ob=>by simp;omega)
  have hA4:Hid (∀ ob,(w1.alloc ob).heap.size=w1.heap.size+1):=hid (fun ob=>by simp)
  have hE1:Hid ((i+1)≤s.size):=hid (by omega)
  have hE2:Hid (qs.length+1≤(i+1)):=hid (by omega)
  have hE3:Hid (s.size-(i+1)<gk):=hid (by have:=hgkH.out;omega)
  go_wp2_with (at_builtin;refine wpList_append_lies _ (by rfl) _ _ 194 (by rfl) w.heap.size 196 i0 (.agg #[.int .i64 0,.string ⟨#[]⟩,.int .i64 0,.int .i64 0,.int .i64 0,.string ⟨#[]⟩,.string ⟨#[]⟩,.int .i64 0,.slice none 0 0,.int .u8 0,.int .i64 0,.int .i64 0,.bool false,.bool false,.bool false,.bool false]) 16 144 Tryz.underlying194 hi' hi0 hi1 hi2 (by rfl) (by decide) (.slice a' qs.length cap') qs.length (za9 qs) (by rfl) (hown.out w1 _ (hb1H.out)) ⟨w1.heap.size,0,none⟩ 1 1 [.int .i64 0,.string sb,.int .i64 0,.int .i64 0,.int .i64 0,.string ⟨#[]⟩,.string ⟨#[]⟩,.int .i64 0,.slice none 0 0,.int .u8 0,.int .i64 0,.int .i64 0,.bool false,.bool false,.bool false,.bool false] (by rfl) (by rfl) hnew.out hone.out (by decide) hA1.out hA2.out (hA3.out _) (w1.heap.size+1) (hA4.out _) ?_)
  intro g' cap1 w2 hown1 hgrow hat hltg
  have hR:=hid (hres.out _ g' cap1 w2 hown1 hgrow hat)
  clear hown1 hgrow hat hltg
  go_wp2
  refine Handed.intro (s.size-(i+1)) hE3.out (hJ _ _ _ ⟨(i+1),qs.length+1,cap1,some ⟨g',0,none⟩,hE1.out,rfl,⟨rfl,rfl,rfl,rfl,rfl⟩,hE2.out,hid (by obtain ⟨q2,h1,h2⟩:=hR.out;exact ⟨q2,h1.symm,h2⟩)⟩)
 ·have hie:i=s.size:=by omega
  have hJ1:¬ (i:Int)<(s.size:Int):=by omega
  have hcq:qs.length≤cap':=by
   rcases hWH.out.own.own.2 with ⟨h1,h2⟩|⟨_,_,_,h1,_,_,h4,_⟩
   ·omega
   ·injection h1 with _ _ h3;omega
  have hPr:Hid (Calls Tryz.prog 140 #[.slice a' qs.length cap'] wr fun e w2=>∃ v ns,e = .returned v∧RepN w2 (fun x=>w.heap.size≤x∧x<w2.heap.size) v ns∧Hid (WTo t [] 0 ns)∧Below w.heap.size w w2):=hid (by
   refine (zkz (fun x=>w.heap.size≤x) a' cap' qs wr hcq hWH.out.own.row (fun j p hp=>(hWH.out.own.kids j p hp).move (fun _ hy=>⟨hy.1,hy.2.1⟩) (fun _ _=>rfl)) (by have:=hWH.out.tot;omega) hWH.out.nums (fun x hx=>by omega)).mono ?_
   rintro e w2 ⟨v,ns,rfl,hr,hp,hb⟩
   exact ⟨v,ns,rfl,hr,hid (hWH.out.toL ns (.done _ _ _ (by rw[htl.out];omega) hp.out)),hWH.out.below.trans (hb.mono hwsz)⟩)
  clear hie
  go_wp2_with fail
  refine hPr.out.mono ?_
  rintro e w2 ⟨v,ns,rfl,hr,hto,hb⟩
  have hrH:=hid hr
  have hbH:=hid hb
  clear hr hb
  go_wp2
  go_ret
  exact ⟨v,ns,rfl,hrH.out,hto,hbH.out⟩
end Go.Proofs.YtlojgpkajkedeaaGreatDoor
