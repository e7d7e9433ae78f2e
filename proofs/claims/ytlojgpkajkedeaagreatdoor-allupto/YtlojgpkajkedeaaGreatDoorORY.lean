import Derived.Test.YtlojgpkajkedeaaGreatDoorORU
set_option maxHeartbeats 0
set_option maxRecDepth 100000
namespace Go.Proofs.YtlojgpkajkedeaaGreatDoor
open Go.RowKit Go.Proofs.Tryz
def Kh (l:List UInt8)(p:Nat):Af:=⟨2,[],O8,(l[p]?).getD 0,S.same (l.drop p),S.same (l.drop p),S.I9 l p (S.same (l.drop p)),S.I7 l p (S.same (l.drop p)),false,false⟩
theorem zeb (s:Sb)(p:Nat)(w:Sw)(bc:s.size<=1000000)(ba:p<s.size)(l:s[p]=42\/s[p]=95):Calls prog 138 #[s,p] w λe m=>e=.returned (N9 (Kh s p) (.slice none 0 0))/\Below w w m:=by
 obtain⟨a,ag,ah,aq,au⟩:=WU w;obtain⟨c,a7⟩:=Qyy (s[p]);have H:=S.Bz s p ba;rw[a7]at H l;obtain⟨n,K⟩:=Qyy (S.cnt c (s.data.toList.drop p));have ak:s.data.toList.drop p=c::s.data.toList.drop (p+1):=by
  obtain⟨a8,bg⟩:=Qb.1 H;rw[Qm a8,bg]
 have ar:S.same (s.data.toList.drop p)=n:=by rw[<-K,ak];rfl
 have b7:p+n<=s.size:=by rw[<-K];have:=S.Gf c (s.data.toList.drop p);rw[Qf,S.lda]at this;omega
 obtain⟨k,z⟩:=Qyy (S.side s ((p:Int)-1));obtain⟨b,F⟩:=Qyy (S.side s ((p+n:Nat):Int));have M:k=0\/k=1\/k=2:=by rw[<-z];exact S.Wv _ _
 have P:b=0\/b=1\/b=2:=by rw[<-F];exact S.Wv _ _
 obtain⟨j,aa⟩:=Qyy (S.leans b k);obtain⟨g,T⟩:=Qyy (S.leans k b);have af:U (Calls prog 126 #[s,p,.int .u8 (c.toNat:Int)] a λe m=>e=.returned n/\a=m):=V (by
  have:=Nq s p c a bc Z;rw[K]at this;exact this.mono (λe m ⟨a0,a1⟩=>⟨a0,a1.symm⟩))
 have ac:U (Calls prog 188 #[s,((p:Int)-1:Int)] a λe m=>e=.returned k/\a=m):=V (by
  have:=WG s ((p:Int)-1) a Z Z;rw[z]at this;exact this)
 have ae:U (Calls prog 188 #[s,((p+n:Nat):Int)] a λe m=>e=.returned b/\a=m):=V (by
  have:=WG s ((p+n:Nat):Int) a Z Z;rw[F]at this;exact this)
 have ap:U (Kh s p=if c=42 then ⟨2,[],O8,c,n,n,j,g,false,false⟩else ⟨2,[],O8,c,n,n,j&&(!g||decide (k=1)),g&&(!j||decide (b=1)),false,false⟩):=V (by
  unfold Kh S.I9 S.I7;rw[ar,H,z,F,aa,T];by_cases e:c=42
  ·subst e;simp
  rw[if_neg e,if_neg (by simpa using e),if_neg (by simpa using e)];rfl)
 have b2:(p:Int)<(s.size:Int):=Z;have b9:IntKind.i64.wrap ((p:Int)-1)=(p:Int)-1:=by rw[Sqe];omega
 have L:IntKind.i64.wrap ((p:Int)+(n:Int))=((p+n:Nat):Int):=by rw[Sqe];omega
 have a9:w<a.heap.size:=Z;have bh:=V au;have a5:=V ah;have a2:=V ag;have b8:=V aq;have a4:=V z;have an:=V aa;have al:=V T;clear ag ah aq au H K ak ar z F aa T;go_enter func138,ntmps138;go_upto_region 1 with fail
 rw[<-a2.q];go_wp2_with fail
 apply af.m;rintro e m⟨rfl,rfl⟩;go_wp2_with fail
 apply ac.m;rintro e m⟨rfl,rfl⟩;go_wp2_with fail
 apply ae.m;rintro e m⟨rfl,rfl⟩;go_upto_region 4 with fail
 go_cut [8] (λbi u=>bi=.bool j/\a=u)
 case first=>
  rcases M with rfl|rfl|rfl<;>rcases P with rfl|rfl|rfl
  all_goals (
   go_wp2;go_meet;exact⟨by rw[<-an.q];rfl,rfl⟩)
 case rest=>
 obtain⟨rfl,rfl⟩:=hcut;go_upto_region 5 with fail
 go_cut [9] (λbj u=>bj=.bool g/\a=u)
 case first=>
  rcases M with rfl|rfl|rfl<;>rcases P with rfl|rfl|rfl
  all_goals (
   go_wp2;go_meet;exact⟨by rw[<-al.q];rfl,rfl⟩)
 case rest=>
 obtain⟨rfl,rfl⟩:=hcut;obtain⟨r,y⟩:=Qzz (a.alloc (.cells #[(2:Int),(),O,O,O,(),(),O,Sx,.int .u8 (c.toNat:Int),n,n,j,g,false,false] 196));have ai:Below a a r:=by rw[y];exact Sr.alloc (Qc _) _
 have A:r.heap[a.heap.size]?=some (.cells #[(2:Int),(),O,O,O,(),(),O,Sx,.int .u8 (c.toNat:Int),n,n,j,g,false,false] 196 (0,0)):=by rw[y];exact Ak _ _
 have bd:r.heap.size=(a:Nat)+1:=by rw[y];simp
 have a3:=V y;obtain⟨q,ab⟩:∃q:Bool,(if c=42 then j else (j&&(!g||decide (k=1))))=q:=⟨_,rfl⟩
 obtain⟨o,W⟩:∃o:Bool,(if c=42 then g else (g&&(!j||decide (b=1))))=o:=⟨_,rfl⟩
 have bb:U (Kh s p=⟨2,[],O8,c,n,n,q,o,false,false⟩):=V (by
  rw[ap.q,<-ab,<-W];by_cases e:c=42
  ·rw[if_pos e,if_pos e,if_pos e]
  rw[if_neg e,if_neg e,if_neg e])
 have ao:=V ab;have am:=V W;have b3:a<r.heap.size:=Z;have aw:=X A 12 _ rfl;have ax:=X A 13 _ rfl;have az:=Av A;have av:=V A;have aj:=V ai;clear y ai A bd ab W ap an al a4 af ac ae;go_upto_region 7 with fail
 rw[<-a3.q];go_upto_if 57 with fail
 go_cut [11] (λ_ u=>U (u.heap[a.heap.size]?=some (.cells #[(2:Int),(),O,O,O,(),(),O,Sx,.int .u8 (c.toNat:Int),n,n,q,o,false,false] 196 (0,0))/\Below a a u))
 case first=>
  rcases l with l|l
  ·have x:U (q=j/\o=g):=V ⟨by rw[<-ao.q,if_pos l],by rw[<-am.q,if_pos l]⟩;have ay:((c.toNat:Int) == 95)=false:=by rw[l];rfl
   clear l;go_wp2;go_meet;exact V ⟨by rw[x.q.1,x.q.2];exact av.q,aj.q⟩
  obtain⟨D,Q⟩:=Qyy (decide (k=1));obtain⟨E,R⟩:=Qyy (decide (b=1));have ca:((k:Int) == 1)=D:=by rw[<-Q,SC,Sqb,Sd]
  have cb:((b:Int) == 1)=E:=by rw[<-R,SC,Sqb,Sd]
  have x:U (q=(j&&(!g||D))/\o=(g&&(!j||E))):=V ⟨by rw[<-ao.q,if_neg (by rw[l];decide),Q],by rw[<-am.q,if_neg (by rw[l];decide),R]⟩;have ay:((c.toNat:Int) == 95)=true:=by rw[l];rfl
  clear l;have bf:U (∀t C,((r.setCell (a 12) (.bool t)).setCell (a 13) (.bool C)).heap[a.heap.size]?=some (.cells #[(2:Int),(),O,O,O,(),(),O,Sx,.int .u8 (c.toNat:Int),n,n,.bool t,.bool C,false,false] 196 (0,0))/\Below a a ((r.setCell (a 12) (.bool t)).setCell (a 13) (.bool C))):=V (λt C=>⟨Aj (cs:=[.int .i64 2,.string ⟨#[]⟩,.int .i64 0,.int .i64 0,.int .i64 0,.string ⟨#[]⟩,.string ⟨#[]⟩,.int .i64 0,.slice none 0 0,.int .u8 (c.toNat:Int),.int .i64 (n:Nat),.int .i64 (n:Nat),.bool t,.bool g,.bool false,.bool false]) (Aj (cs:=[.int .i64 2,.string ⟨#[]⟩,.int .i64 0,.int .i64 0,.int .i64 0,.string ⟨#[]⟩,.string ⟨#[]⟩,.int .i64 0,.slice none 0 0,.int .u8 (c.toNat:Int),.int .i64 (n:Nat),.int .i64 (n:Nat),.bool j,.bool g,.bool false,.bool false]) av.q 12 (.bool t)) 13 (.bool C),(aj.q.setCell (p:=⟨a,12,none⟩) (Qc _) _).setCell (p:=⟨a,13,none⟩) (Qc _) _⟩);clear Q R M P;cases j<;>cases g
  all_goals (
   go_wp2;go_meet;refine V ?_;rw[x.q.1,x.q.2];exact bf.q _ _)
 case rest=>
 have f:=hcut.q.1;have G:=hcut.q.2;have L:w<a.heap.size:=a9;have d:=(G.block w L).trans bh.q;have ct:=X d 0 _ rfl;have cu:=X d 1 _ rfl;have c1:=X d 2 _ rfl;have c2:=X d 3 _ rfl;have c3:=X d 4 _ rfl;have c4:=X d 5 _ rfl;have c5:=X d 6 _ rfl;have c6:=X d 7 _ rfl;have c7:=X d 8 _ rfl;have c8:=X d 9 _ rfl;have cv:=X d 10 _ rfl;have cw:=X d 11 _ rfl;have cx:=X d 12 _ rfl;have cy:=X d 13 _ rfl;have cz:=X d 14 _ rfl;have c0:=X d 15 _ rfl;have cc:=X f 0 _ rfl;have cd:=X f 1 _ rfl;have ck:=X f 2 _ rfl;have cl:=X f 3 _ rfl;have cm:=X f 4 _ rfl;have cn:=X f 5 _ rfl;have co:=X f 6 _ rfl;have cp:=X f 7 _ rfl;have cq:=X f 8 _ rfl;have cr:=X f 9 _ rfl;have ce:=X f 10 _ rfl;have cf:=X f 11 _ rfl;have cg:=X f 12 _ rfl;have ch:=X f 13 _ rfl;have ci:=X f 14 _ rfl;have cj:=X f 15 _ rfl;have b1:=Av d;have h:=V (IW d (.int .i64 2) (.string ⟨#[]⟩) (.int .i64 0) (.int .i64 0) (.int .i64 0) (.string ⟨#[]⟩) (.string ⟨#[]⟩) (.int .i64 0) (.slice none 0 0) (.int .u8 (c.toNat:Int)) (.int .i64 (n:Nat)) (.int .i64 (n:Nat)) (.bool q) (.bool o) (.bool false) (.bool false));have a6:=V (OB (N:=w.heap.size) (a5.q.trans (G.mono (Sm L))) (Qc _) (.int .i64 2) (.string ⟨#[]⟩) (.int .i64 0) (.int .i64 0) (.int .i64 0) (.string ⟨#[]⟩) (.string ⟨#[]⟩) (.int .i64 0) (.slice none 0 0) (.int .u8 (c.toNat:Int)) (.int .i64 (n:Nat)) (.int .i64 (n:Nat)) (.bool q) (.bool o) (.bool false) (.bool false));have b4:w<wc.heap.size:=Qh L G.size;have b5:a<wc.heap.size:=(Qq.1 f).1;have b6:¬a.heap.size=w.heap.size:=Z;clear f G d aw ax az hcut;go_wp2;refine Sqk (v:=.agg #[(2:Int),(),O,O,O,(),(),O,Sx,.int .u8 (c.toNat:Int),n,n,q,o,false,false]) (by have bk:=X h.q 0 _ rfl;have bl:=X h.q 1 _ rfl;have bs:=X h.q 2 _ rfl;have bt:=X h.q 3 _ rfl;have bu:=X h.q 4 _ rfl;have bv:=X h.q 5 _ rfl;have bw:=X h.q 6 _ rfl;have bx:=X h.q 7 _ rfl;have bz:=X h.q 8 _ rfl;have b0:=X h.q 9 _ rfl;have bm:=X h.q 10 _ rfl;have bn:=X h.q 11 _ rfl;have bo:=X h.q 12 _ rfl;have bp:=X h.q 13 _ rfl;have bq:=X h.q 14 _ rfl;have br:=X h.q 15 _ rfl;simp[results,results138,go_sem,bk,bl,bs,bt,bu,bv,bw,bx,bz,b0,bm,bn,bo,bp,bq,br]) rfl ?_;exact⟨by rw[bb.q];rfl,a6.q⟩
