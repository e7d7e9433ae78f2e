import Derived.Test.YtlojgpkajkedeaaGreatDoorOW8
set_option maxHeartbeats 0
set_option maxRecDepth 100000
namespace Go.Proofs.YtlojgpkajkedeaaGreatDoor
open Go.RowKit Go.Proofs.Tryz
def Xd (f:Nat):Prop:=∀(b k h:Nat) (a:Sb) (d:List ByteArray) (w:Sw),d.length+1<=h->b<w.heap.size->Cx w b k (a::d)->Env w->bytes (dat (a::d))<=f->(S.Ae a).ok=true ->
 Calls prog 122 #[.slice (some (b k)) (d.length+1) h,.agg #[.int .u8 ((S.Ae a).kind.toNat:Int),.int .i64 (S.Ae a).Al,((S.Ae a).Ao:Nat),.bool (S.Ae a).empty]] w λe g=>
  ∃j,e=.returned (.tuple #[Gz (S.G9 (S.Ag f) (S.Ae a) (dat (a::d))).1 j,((S.G9 (S.Ag f) (S.Ae a) (dat (a::d))).2:Nat)])/\Co g (λl=>w.heap.size<=l/\l<g) j (S.G9 (S.Ag f) (S.Ae a) (dat (a::d))).1.Ab/\Below w w g
theorem Ws (l:List UInt8)(a:S.Cz l=true):(S.Kl l).length<l.length:=by
 unfold S.Cz Lib.hasPrefix at a;have d:=S.CF l;have f:=Lib.trimPrefix_le ((S.Aq l).drop 1) [32];unfold S.Kl;cases g:S.Aq l with
 |nil=>rw[g]at a;simp at a
 |cons c h=>rw[g]at d f;simp at d f ⊢;omega
theorem zc8 (l:List (List UInt8)):bytes (S.Bn l)<=bytes l:=by
 induction l with
 |nil=>simp[S.Bn]
 |cons d g f=>
  simp only[S.Bn];split;·rename_i a;have:=Ws d a;simp only[bytes,Qs,List.sum_cons]at *;omega
  simp[bytes]
theorem FB (a:List UInt8)(r:List (List UInt8))(d:S.Cz a=true):bytes (S.Bn (a::r))<bytes (a::r):=by
 have f:=Ws a d;have g:=zc8 r;simp only[S.Bn,if_pos d,bytes,Qs,List.sum_cons]at *;omega
theorem LA (m:Nat)(cd:Oa m)(cc:Xd m)(b ah ai:Nat)(d:Sb)(f:List ByteArray)(w:Sw)(bo:f.length+1<=ai)(cf:b<w)(bt:Cx w b ah (d::f))(ch:Env w)(hd:bytes (dat (d::f))<=m):Calls prog 85 #[.slice (some (b ah)) (f.length+1) ai] w λe h=>
   ∃a8,e=.returned (.tuple #[Gz (S.A8 (S.Ag m) (dat (d::f))).1 a8,((S.A8 (S.Ag m) (dat (d::f))).2:Nat)])/\Co h (λu=>w.heap.size<=u/\u<h) a8 (S.A8 (S.Ag m) (dat (d::f))).1.Ab/\Below w w h:=by
 have cr:=bt.2;have cj:=bt.len;simp only[Qd]at cj;have bu:(d::f)[0]?=some d:=rfl;have cl:d.size<=140737488355328:=by have:=J6 _ _ d bu;omega
 have cp:d.size<=1000000:=by have:=J6 _ _ d bu;omega
 have af:d.size<=maxLen:=by unfold maxLen;omega
 obtain⟨s,au⟩:=Qzz (w.alloc (.cells #[O,O,Sx,O,(),(),false,Sx] 110));have b3:s.heap.size=(w:Nat)+1:=by rw[au];simp
 have bm:Below w w s:=by rw[au];exact(Below.refl _ w).alloc (Qc _) _
 have bv:s.heap[w.heap.size]?=some (.cells #[O,O,Sx,O,(),(),false,Sx] 110):=by rw[au];exact Ak _ _
 have av:=V (bt.below bm cf);have az:=V (ch.below bm);have cm:(w.alloc (.cells #[O,O,Sx,O,(),(),false,Sx] 110)).cell? (b ah)=some (.string d):=by rw[<-au];exact av.q.1 0 d bu
 have aa:b<s:=Z;have ao:=V au;have cq:=V b3;have cs:=V bv
 have fin:∀(l:Sw) (B:S.Ac) (P:So) (R Q:Nat),Below s s l->Co l (λu=>s.heap.size<=u/\u<l) (.slice P R Q) B.Ab ->
   (l.cell? w=some (.int .i64 0)/\l.cell? (w 1)=some (.int .i64 0)/\l.cell? (w 2)=some (.slice none 0 0)/\l.cell? (w 3)=some (.int .i64 0)/\l.cell? (w 4)=some (.string ⟨#[]⟩)/\l.cell? (w 5)=some (.string ⟨#[]⟩)/\l.cell? (w 6)=some (.bool false)/\l.cell? (w 7)=some (.slice none 0 0)/\(∀i,l.frozen? (w i)=false)) /\
   (∀a9 ba bb bc bd bf bg bh,Co ((((((((l.setCell w a9).setCell (w 1) ba).setCell (w 2) bb).setCell (w 3) bc).setCell (w 4) bd).setCell (w 5) bf).setCell (w 6) bg).setCell (w 7) bh) (λu=>w.heap.size<=u/\u<((((((((l.setCell w a9).setCell (w 1) ba).setCell (w 2) bb).setCell (w 3) bc).setCell (w 4) bd).setCell (w 5) bf).setCell (w 6) bg).setCell (w 7) bh).heap.size) (.slice P R Q) B.Ab/\Below w w ((((((((l.setCell w a9).setCell (w 1) ba).setCell (w 2) bb).setCell (w 3) bc).setCell (w 4) bd).setCell (w 5) bf).setCell (w 6) bg).setCell (w 7) bh)):=by
  intro l B P R Q p ab;have T:=p.block w Z;rw[bv]at T;refine⟨⟨X T 0 _ rfl,X T 1 _ rfl,X T 2 _ rfl,X T 3 _ rfl,X T 4 _ rfl,X T 5 _ rfl,X T 6 _ rfl,X T 7 _ rfl,Av T⟩,λa9 ba bb bc bd bf bg bh=>⟨?_,?_⟩⟩;·exact ab.move (λu ag=>⟨Z,by rw[Yj];exact ag.2⟩) (λu ag=>Xy _ _ _ _ _ _ _ _ u Z)
  repeat (refine Sqh ?_ Y _)
  exact bm.trans (p.mono Z)
 have aj:=V fin;have ay:U (S.A8 (S.Ag m) (dat (d::f))=(if 4<=S.Ap d.data.toList then S.Js (dat (d::f))
  else if S.Ea d=true then (.mk 4 0 [] [] false [],1)
  else if 0<S.En d.data.toList then (.mk 2 (S.En d) [] (S.Fp d) false [],1)
  else if (S.Bp d).ok=true then S.Km (S.Bp d) (dat (d::f))
  else if S.Cz d=true then (.mk 5 0 [] [] false (S.Ag m (S.Bn (dat (d::f)))).1,(S.Bn (dat (d::f))).length)
  else if (S.Ae d).ok=true then S.G9 (S.Ag m) (S.Ae d) (dat (d::f))
  else S.Cr (dat (d::f)))):=V rfl
 obtain⟨bw,br⟩:∃u,S.Ap d=u:=⟨_,rfl⟩;obtain⟨a1,b2⟩:∃u,S.En d=u:=⟨_,rfl⟩;have am:U (∀j,Calls prog 112 #[d] j λe h=>e=.returned bw/\j=h):=V (λj=>(Kg d j af).mono (λe h ⟨H,K⟩=>⟨by rw[H,br],K.symm⟩));have an:U (∀j,Calls prog 115 #[d] j λe h=>e=.returned a1/\j=h):=V (λj=>(Xn d j af).mono (λe h ⟨H,K⟩=>⟨by rw[H,b2],K.symm⟩));have cn:bw<=d.size:=by rw[<-br,<-S.lda];exact S.Jz _
 rw[br,b2]at ay;clear fin b3 bv au;by_cases aw:4<=bw
 ·have r:U (S.A8 (S.Ag m) (dat (d::f))=S.Js (dat (d::f))):=V (by rw[ay.q,if_pos aw]);have b7:=V (zbt b ah ai (d::f) s Y (by simpa using bo) aa av.q);go_enter func85,ntmps85;go_wp2_with (first|(go_at_call 112;refine(am.q _).mono ?_;rintro e h⟨rfl,rfl⟩)|(go_at_call 114;refine(ae.q _).mono ?_;rintro e h⟨rfl,rfl⟩)|(go_at_call 115;refine(an.q _).mono ?_;rintro e h⟨rfl,rfl⟩))
  rw[<-ao.q];apply b7.m;rintro e l⟨rfl,p⟩;obtain⟨⟨y,z,A,C,D,E,F,G,ak⟩,q⟩:=aj.q l (S.Js (dat (d::f))).1 none 0 0 p .nil;have t:=V q;clear q p;simp only[Gz];go_wp2;refine Sqk (v:=.tuple #[Gz (S.Js (dat (d::f))).1 (.slice none 0 0),((S.Js (dat (d::f))).2:Nat)]) (by simp[results,results85,go_sem,y,z,A,C,D,E,F,G,Gz]) rfl ⟨(.slice none 0 0),?_,?_,?_⟩;·rw[r.q]
  ·rw[r.q];exact(t.q _ _ _ _ _ _ _ _).1
  exact(t.q _ _ _ _ _ _ _ _).2
 cases a6:S.Ea d
 case true=>
  have ae:U (∀j,Calls prog 114 #[d] j λe h=>e=.returned true/\j=h):=V (λj=>(O9 d j af).mono (λe h ⟨H,K⟩=>⟨by rw[H,a6],K.symm⟩));have r:U (S.A8 (S.Ag m) (dat (d::f))=(.mk 4 0 [] [] false [],1)):=V (by rw[ay.q,if_neg aw,if_pos a6]);obtain⟨⟨y,z,A,C,D,E,F,G,ak⟩,q⟩:=aj.q s (.mk 4 0 [] [] false []) none 0 0 Sr .nil;have t:=V q;clear q;rw[ao.q]at y z A C D E F G ak;go_enter func85,ntmps85;go_wp2_with (first|(go_at_call 112;refine(am.q _).mono ?_;rintro e h⟨rfl,rfl⟩)|(go_at_call 114;refine(ae.q _).mono ?_;rintro e h⟨rfl,rfl⟩)|(go_at_call 115;refine(an.q _).mono ?_;rintro e h⟨rfl,rfl⟩))
  exact Sqk (v:=.tuple #[.agg #[(4:Int),O,Sx,O,(),(),false,Sx],(1:Int)]) (by simp[results,results85,go_sem]) rfl ⟨.slice none 0 0,by rw[r.q];rfl,by rw[r.q];exact .nil,Sr.alloc (Qc _) _⟩
 case false=>
 have ae:U (∀j,Calls prog 114 #[d] j λe h=>e=.returned false/\j=h):=V (λj=>(O9 d j af).mono (λe h ⟨H,K⟩=>⟨by rw[H,a6],K.symm⟩));have bj:=V (ay.q.trans (by rw[if_neg aw,if_neg (by rw[a6];simp)]));clear ay;by_cases b1:0<a1
 ·have r:U (S.A8 (S.Ag m) (dat (d::f))=(.mk 2 (a1:Int) [] (S.Fp d) false [],1)):=V (by rw[bj.q,if_pos b1]);have ce:=V (zay d s af);go_enter func85,ntmps85;go_wp2_with (first|(go_at_call 112;refine(am.q _).mono ?_;rintro e h⟨rfl,rfl⟩)|(go_at_call 114;refine(ae.q _).mono ?_;rintro e h⟨rfl,rfl⟩)|(go_at_call 115;refine(an.q _).mono ?_;rintro e h⟨rfl,rfl⟩))
  rw[<-ao.q];apply ce.m;rintro e l⟨b4,rfl,ck,co,p⟩;obtain⟨⟨y,z,A,C,D,E,F,G,ak⟩,q⟩:=aj.q l (.mk 2 (a1:Int) [] (S.Fp d) false []) none 0 0 p .nil;have t:=V q;have bs:U (Value.string b4=.string (S.B (S.Fp d))):=V (by rw[<-ck.q,S.El]);clear q p;go_wp2;refine Sqk (v:=.tuple #[.agg #[(2:Int),O,Sx,a1,(),b4,false,Sx],(1:Int)]) (by simp[results,results85,go_sem,y,z,A,C,D,E,F,G]) rfl ⟨.slice none 0 0,?_,?_,?_⟩;·rw[r.q,bs.q];rfl
  ·rw[r.q];exact(t.q _ _ _ _ _ _ _ _).1
  exact(t.q _ _ _ _ _ _ _ _).2
 have a4:=V (bj.q.trans (by rw[if_neg b1]));clear bj;obtain⟨g,bi⟩:=Qyy (S.Bp d);have al:=V (VD d s af);rw[bi]at al a4;have cb:g.ind<=1000000:=by rw[<-bi];unfold S.Bp;split<;>(try split)<;>(try simp)<;>omega
 clear bi;cases M:g.ok
 case true=>
  have r:U (S.A8 (S.Ag m) (dat (d::f))=S.Km g (dat (d::f))):=V (by rw[a4.q,if_pos M]);rw[M]at al;go_enter func85,ntmps85;go_wp2_with (first|(go_at_call 112;refine(am.q _).mono ?_;rintro e h⟨rfl,rfl⟩)|(go_at_call 114;refine(ae.q _).mono ?_;rintro e h⟨rfl,rfl⟩)|(go_at_call 115;refine(an.q _).mono ?_;rintro e h⟨rfl,rfl⟩))
  rw[<-ao.q];apply al.m;rintro e ac⟨info,rfl,a5,bq,x⟩;have o:=x.alloc x.size (.cells #[.int .u8 (g.mark.toNat:Int),g.width,g.ind,info] 181);have b6:=V (zhm b ah ai d f g.mark g.width g.ind info (ac.alloc (.cells #[.int .u8 (g.mark.toNat:Int),g.width,g.ind,info] 181)) (Qh aa o.size) (av.q.below o aa) cb);have aq:=V o;have N:s.heap.size<=(ac.alloc (.cells #[.int .u8 (g.mark.toNat:Int),g.width,g.ind,info] 181)).heap.size:=o.size;have W:=V N;clear x o N;go_wp2_with fail
  apply b6.m;rintro e l⟨rfl,p⟩;obtain⟨⟨y,z,A,C,D,E,F,G,ak⟩,q⟩:=aj.q l (S.Km g (dat (d::f))).1 none 0 0 (aq.q.trans (p.mono W.q)) .nil;have t:=V q;have bs:U (Value.string info=.string (S.B g.info)):=V (by rw[<-a5.q,S.El]);clear q p;go_wp2;refine Sqk (v:=.tuple #[.agg #[(3:Int),O,Sx,O,info,(S.B (S.Ef g.ind ((dat f).take (S.Ev g.mark g.width (dat f))))),false,Sx],((min (S.Ev g.mark g.width (dat f)+1+1) (f.length+1):Nat):Int)]) (by simp[results,results85,go_sem,y,z,A,C,D,E,F,G]) rfl ⟨.slice none 0 0,?_,?_,?_⟩;·rw[r.q,bs.q];unfold S.Km;rw[Cq];rfl
  ·rw[r.q];exact(t.q _ _ _ _ _ _ _ _).1
  exact(t.q _ _ _ _ _ _ _ _).2
 case false=>
 have bk:=V (a4.q.trans (by rw[if_neg (by rw[M];simp)]));rw[M]at al;clear a4 M;cases ar:S.Cz d
 case true=>
  have a3:U (∀j,Calls prog 119 #[d] j λe h=>e=.returned true/\j=h):=V (λj=>(Uk d j af).mono (λe h ⟨H,K⟩=>⟨by rw[H,ar],K.symm⟩));have r:U (S.A8 (S.Ag m) (dat (d::f))=(.mk 5 0 [] [] false (S.Ag m (S.Bn (dat (d::f)))).1,(S.Bn (dat (d::f))).length)):=V (by rw[bk.q,if_pos ar]);go_enter func85,ntmps85;go_wp2_with (first|(go_at_call 112;refine(am.q _).mono ?_;rintro e h⟨rfl,rfl⟩)|(go_at_call 114;refine(ae.q _).mono ?_;rintro e h⟨rfl,rfl⟩)|(go_at_call 115;refine(an.q _).mono ?_;rintro e h⟨rfl,rfl⟩))
  rw[<-ao.q];apply al.m;rintro e ac⟨info,rfl,a5,bq,x⟩;have o:=x.alloc x.size (.cells #[.int .u8 (g.mark.toNat:Int),g.width,g.ind,info] 181);have ca:=V (zie m cd b ah ai (d::f) (ac.alloc (.cells #[.int .u8 (g.mark.toNat:Int),g.width,g.ind,info] 181)) (Qh aa o.size) (av.q.below o aa) (az.q.below o) (by rw[Iy];simp[ar]) (Qh (FB d (dat f) ar) hd));have aq:=V o;have N:s.heap.size<=(ac.alloc (.cells #[.int .u8 (g.mark.toNat:Int),g.width,g.ind,info] 181)).heap.size:=o.size;have W:=V N;clear x o N;go_wp2_with (go_at_call 119;refine(a3.q _).mono ?_;rintro e h⟨rfl,rfl⟩)
  apply ca.m;rintro e l⟨a8,rfl,ab,p⟩;obtain⟨P,R,Q,rfl⟩:=ab.form;obtain⟨⟨y,z,A,C,D,E,F,G,ak⟩,q⟩:=aj.q l (.mk 5 0 [] [] false (S.Ag m (S.Bn (dat (d::f)))).1) P R Q (aq.q.trans (p.mono W.q)) (ab.move (λu ag=>⟨Qj W.q ag.1,ag.2⟩) (λ_ _=>rfl));have t:=V q;clear q p ab;simp only[Gz];go_wp2;refine Sqk (v:=.tuple #[Gz (.mk 5 0 [] [] false (S.Ag m (S.Bn (dat (d::f)))).1) (.slice P R Q),((S.Bn (dat (d::f))).length:Nat)]) (by simp[results,results85,go_sem,y,z,A,C,D,E,F,G,Gz]) rfl ⟨.slice P R Q,?_,?_,?_⟩;·rw[r.q]
  ·rw[r.q];exact(t.q _ _ _ _ _ _ _ _).1
  exact(t.q _ _ _ _ _ _ _ _).2
 case false=>
 have a3:U (∀j,Calls prog 119 #[d] j λe h=>e=.returned false/\j=h):=V (λj=>(Uk d j af).mono (λe h ⟨H,K⟩=>⟨by rw[H,ar],K.symm⟩));have bl:=V (bk.q.trans (by rw[if_neg (by rw[ar];simp)]));have bx:=V (λj H K b5 aw=>cc b ah ai d f j bo H K b5 hd aw);have ax:=V (λj cg=>EA d j cl cg);obtain⟨k,bz⟩:=Qyy (S.Ae d);rw[bz]at bl bx ax;clear bk bz ar;cases M:k.ok
 case true=>
  have r:U (S.A8 (S.Ag m) (dat (d::f))=S.G9 (S.Ag m) k (dat (d::f))):=V (by rw[bl.q,if_pos M]);rw[M]at ax;go_enter func85,ntmps85;go_wp2_with (first|(go_at_call 112;refine(am.q _).mono ?_;rintro e h⟨rfl,rfl⟩)|(go_at_call 114;refine(ae.q _).mono ?_;rintro e h⟨rfl,rfl⟩)|(go_at_call 115;refine(an.q _).mono ?_;rintro e h⟨rfl,rfl⟩))
  rw[<-ao.q];apply al.m;rintro e ac⟨info,rfl,a5,bq,x⟩;have o:=x.alloc x.size (.cells #[.int .u8 (g.mark.toNat:Int),g.width,g.ind,info] 181);have bp:=V (az.q.below o);have aq:=V o;have N:s.heap.size<=(ac.alloc (.cells #[.int .u8 (g.mark.toNat:Int),g.width,g.ind,info] 181)).heap.size:=o.size;have W:=V N;clear x o N;go_wp2_with (go_at_call 119;refine(a3.q _).mono ?_;rintro e h⟨rfl,rfl⟩)
  refine(ax.q _ bp.q).mono ?_;rintro e a2⟨rfl,ap⟩;have L:=(aq.q.trans (ap.mono W.q)).alloc (Qj W.q ap.size) (.cells #[.int .u8 (k.kind.toNat:Int),k.Al,k.Ao,k.empty] 186);have b8:=V (bx.q (a2.alloc (.cells #[.int .u8 (k.kind.toNat:Int),k.Al,k.Ao,k.empty] 186)) (Qh aa L.size) (av.q.below L aa) (az.q.below L) M);have bn:=V L;have a0:s.heap.size<=(a2.alloc (.cells #[.int .u8 (k.kind.toNat:Int),k.Al,k.Ao,k.empty] 186)).heap.size:=L.size;have a7:=V a0;clear ap L a0;go_wp2_with fail
  apply b8.m;rintro e l⟨a8,rfl,ab,p⟩;obtain⟨P,R,Q,rfl⟩:=ab.form;obtain⟨⟨y,z,A,C,D,E,F,G,ak⟩,q⟩:=aj.q l (S.G9 (S.Ag m) k (dat (d::f))).1 P R Q (bn.q.trans (p.mono a7.q)) (ab.move (λu ag=>⟨Qj a7.q ag.1,ag.2⟩) (λ_ _=>rfl));have t:=V q;clear q p ab;simp only[Gz];go_wp2;refine Sqk (v:=.tuple #[Gz (S.G9 (S.Ag m) k (dat (d::f))).1 (.slice P R Q),((S.G9 (S.Ag m) k (dat (d::f))).2:Nat)]) (by simp[results,results85,go_sem,y,z,A,C,D,E,F,G,Gz]) rfl ⟨.slice P R Q,?_,?_,?_⟩;·rw[r.q]
  ·rw[r.q];exact(t.q _ _ _ _ _ _ _ _).1
  exact(t.q _ _ _ _ _ _ _ _).2
 case false=>
  have r:U (S.A8 (S.Ag m) (dat (d::f))=S.Cr (dat (d::f))):=V (by rw[bl.q,if_neg (by rw[M];simp)]);have b0:(S.Cr (dat (d::f))).1.Ab=[]:=by
   unfold S.Cr;simp only[];split;·rfl
   split<;>rfl
  rw[M]at ax;go_enter func85,ntmps85;go_wp2_with (first|(go_at_call 112;refine(am.q _).mono ?_;rintro e h⟨rfl,rfl⟩)|(go_at_call 114;refine(ae.q _).mono ?_;rintro e h⟨rfl,rfl⟩)|(go_at_call 115;refine(an.q _).mono ?_;rintro e h⟨rfl,rfl⟩))
  rw[<-ao.q];apply al.m;rintro e ac⟨info,rfl,a5,bq,x⟩;have o:=x.alloc x.size (.cells #[.int .u8 (g.mark.toNat:Int),g.width,g.ind,info] 181);have bp:=V (az.q.below o);have aq:=V o;have N:s.heap.size<=(ac.alloc (.cells #[.int .u8 (g.mark.toNat:Int),g.width,g.ind,info] 181)).heap.size:=o.size;have W:=V N;clear x o N;go_wp2_with (go_at_call 119;refine(a3.q _).mono ?_;rintro e h⟨rfl,rfl⟩)
  refine(ax.q _ bp.q).mono ?_;rintro e a2⟨rfl,ap⟩;have L:=(aq.q.trans (ap.mono W.q)).alloc (Qj W.q ap.size) (.cells #[.int .u8 (k.kind.toNat:Int),k.Al,k.Ao,k.empty] 186);have b9:=V (zk1 b ah ai d f (a2.alloc (.cells #[.int .u8 (k.kind.toNat:Int),k.Al,k.Ao,k.empty] 186)) bo (Qh aa L.size) (av.q.below L aa) (az.q.below L));have bn:=V L;have a0:s.heap.size<=(a2.alloc (.cells #[.int .u8 (k.kind.toNat:Int),k.Al,k.Ao,k.empty] 186)).heap.size:=L.size;have a7:=V a0;have ci:=V b0;clear ap L a0 b0;go_wp2_with fail
  apply b9.m;rintro e l⟨rfl,p⟩;obtain⟨⟨y,z,A,C,D,E,F,G,ak⟩,q⟩:=aj.q l (S.Cr (dat (d::f))).1 none 0 0 (bn.q.trans (p.mono a7.q)) (by rw[ci.q];exact .nil);have t:=V q;clear q p;simp only[Gz];go_wp2;refine Sqk (v:=.tuple #[Gz (S.Cr (dat (d::f))).1 (.slice none 0 0),((S.Cr (dat (d::f))).2:Nat)]) (by simp[results,results85,go_sem,y,z,A,C,D,E,F,G,Gz]) rfl ⟨.slice none 0 0,?_,?_,?_⟩;·rw[r.q]
  ·rw[r.q];exact(t.q _ _ _ _ _ _ _ _).1
  exact(t.q _ _ _ _ _ _ _ _).2
theorem Tryz.IC:(prog.info? 110).map (λi=>(i.zero,i.size,i.bytes))=some (some (.agg #[O,O,Sx,O,(),(),false,Sx]),8,112):=Sk
structure Ext where
 la:Option Addr
 ln:Nat
 lc:Nat
def six (p:S.Ac×Value×Ext):List Value:=[.int .i64 p.1.kind,.int .i64 p.1.line,.slice p.2.2.la p.2.2.ln p.2.2.lc,.int .i64 p.1.n,.string (S.B p.1.info),.string (S.B p.1.text),.bool p.1.Ai,p.2.1]
def cellsOf (ps:List (S.Ac×Value×Ext)):List Value:=(ps.map six).flatten
theorem BX (ps:List (S.Ac×Value×Ext))(p:S.Ac×Value×Ext):cellsOf (ps++[p])=cellsOf ps++six p:=by simp[cellsOf]
theorem MG (ps:List (S.Ac×Value×Ext))(i a:Nat)(p:S.Ac×Value×Ext)(d:ps[i]?=some p)(k:a<8):(cellsOf ps)[8*i+a]?=(six p)[a]?:=by
 induction ps generalizing i with
 |nil=>simp at d
 |cons g h j=>
  have f:(six g).length=8:=rfl;cases i with
  |zero=>
   simp at d;subst d;show (six g++cellsOf h)[8*0+a]?=_;rw[Qbd (by rw[f];omega)];simp
  |succ i=>
   have:=j i (by simpa using d);show (six g++cellsOf h)[8*(i+1)+a]?=_;rw[Qu (by rw[f];omega),f,<-this];congr 1;omega
theorem Z5 {w:Sw}{B:Nat}{v:Value}{ps:List (S.Ac×Value×Ext)}{A:Nat->Prop}(l:w.ownsRow B 110 8 v ps.length (cellsOf ps))(t:∀g,v.ownBlock=some g->A g)
  (y:∀(i:Nat) (a:S.Ac×Value×Ext),ps[i]?=some a->Co w A a.2.1 a.1.Ab):Co w A v (ps.map Prod.fst):=by
 rcases l.2 with ⟨m,o⟩|⟨g,r,D,m,o,E,s,F,G,H⟩
 ·have:ps=[]:=List.eq_nil_of_length_eq_zero o;subst this;rw[m];exact .nil
 subst m;have h:∀i j a k,ps[i]?=some a->j<8->(six a)[j]?=some k->w.cell? ⟨g,0+8*i+j,none⟩=some k:=by
  intro i j a k d x z;have q:=MG ps i j a d x;rw[z]at q;have:=l.cells (g:=g) rfl (8*i+j) k q;have u:(⟨g,0,none⟩:Addr).add (8*i+j)=⟨g,0+8*i+j,none⟩:=by
   simp only[Addr.add];split;·rename_i l;simp<;>omega
   simp<;>omega
  rw[<-u];exact this
 have p:(ps.map Prod.fst).length=ps.length:=Y;rw[<-p];refine .some g 0 r (ps.map Prod.fst) (λi=>(ps[i]?.map (λa=>a.2.1)).getD .nilIface) (t g rfl) (by rw[p];exact s) ?_ ?_
 ·intro i C d;rw[SA]at d;cases f:ps[i]? with
  |none=>rw[f]at d;simp at d
  |some a=>
   rw[f]at d;simp at d;subst d;refine⟨h i 0 a _ f Z rfl,h i 1 a _ f Z rfl,⟨a.2.2.la,a.2.2.ln,a.2.2.lc,h i 2 a _ f Z rfl⟩,h i 3 a _ f Z rfl,h i 4 a _ f Z rfl,h i 5 a _ f Z rfl,h i 6 a _ f Z rfl,?_⟩;exact h i 7 a _ f Z rfl
 intro i C d;rw[SA]at d;cases f:ps[i]? with
 |none=>rw[f]at d;simp at d
 |some a=>
  rw[f]at d;simp at d;subst d;have:=y i a f;simpa using this
theorem Nw (l:List (List UInt8))(k:Nat):bytes (l.drop k)<=bytes l:=by
 induction l generalizing k with
 |nil=>simp
 |cons f d a=>cases k with
  |zero=>simp
  |succ k=>have:=a k;simp only[List.drop_succ_cons];simp only[bytes,Qs,List.sum_cons]at *;omega
structure Ue (d:Nat)(w:Sw)(ss:List ByteArray)(k f:Nat)(ps:List (S.Ac×Value×Ext))(v:Value)(pb:Bool)(wr:Sw):Prop where
 spec:S.Ag (d+1) (dat ss)=(ps.map Prod.fst++(S.rowFrom (S.Ag d) ss.length f ((dat ss).drop k)).1,pb||(S.rowFrom (S.Ag d) ss.length f ((dat ss).drop k)).2)
 fuel:ss.length-k<=f
 own:wr.ownsRow w 110 8 v ps.length (cellsOf ps)
 Ab:∀(i:Nat) (p:S.Ac×Value×Ext),ps[i]?=some p->Co wr (λx=>w.heap.size<=x/\x<wr.heap.size/\some x≠v.ownBlock) p.2.1 p.1.Ab
 below:Below w w wr
 count:ps.length<=k
theorem Ue.step {u:Nat}{w wr f w2:Sw}{L:List ByteArray}{k x g cap1:Nat}{ps:List (S.Ac×Value×Ext)}{v kv:Value}{H:Bool}{B:S.Ac}{ln:Ext}{r:Sw}
  (m:Ue u w L k x ps v H wr) (o:Below wr wr f) (E:Co f (λa=>wr.heap.size<=a/\a<f) kv B.Ab)
  (C:w2.ownsRow w 110 8 (.slice (some g) (ps.length+1) cap1) (ps.length+1) (cellsOf ps++six (B,kv,ln))) (s:Below f f r) (G:r.heap.size=(f:Nat)+2) (p:r.grownBy w2 v.ownBlock)
  (h:v.ownBlock=some g\/g=(f:Nat)+1+1) :
  (∀(i:Nat) (l:S.Ac×Value×Ext),(ps++[(B,kv,ln)])[i]?=some l->Co w2 (λa=>w.heap.size<=a/\a<w2.heap.size/\some a≠some g) l.2.1 l.1.Ab)/\w2.ownsRow w 110 8 (.slice (some g) (ps++[(B,kv,ln)]).length cap1) (ps++[(B,kv,ln)]).length (cellsOf (ps++[(B,kv,ln)]))/\Below w w w2:=by
 have q:=m.own.lt;have F:=m.below.size;have M:=o.size;have N:=p.size;have P:=G;have t:∀a,a<f.heap.size->some a≠v.ownBlock->w2.heap[a]?=f.heap[a]?:=by
  intro a d A;rw[p.block a Z A,s.block a d]
 refine⟨?_,?_,?_⟩
 ·intro i l j;by_cases z:i<ps.length
  ·rw[Qbd z]at j;refine(m.Ab i l j).move ?_ ?_
   ·intro a d;refine⟨d.1,Z,?_⟩;rcases h with h|h
    ·rw[<-h];exact d.2.2
    intro e;cases e;omega
   intro a d;rw[t a Z d.2.2,o.block a d.2.1]
  rw[Qu Z]at j;have y:i-ps.length=0:=by have:=(Qb.1 j).1;simp at this;omega
  rw[y]at j;simp at j;subst j;refine E.move ?_ ?_
  ·intro a d;refine⟨Z,Z,?_⟩;intro e;rcases h with h|h
   ·have:=q g h;cases e;omega
   cases e;omega
  intro a d;refine t a d.2 (λe=>?_);have:=q a e.symm;omega
 ·rw[BX,Qa];exact C
 refine Sqi ((m.below.trans (o.mono F)).trans (s.mono Z)) p Z (λK D=>(q K D).1)
theorem zkj (p:Nat)(a2:Oa p)(a1:Xd p):Oa (p+1):=by
 intro b j g d w ce a5 R bp hd;have ct:=R.2;have cl:=R.len;obtain⟨i0,br,b7,b8,b9⟩:=info_parts Tryz.IC;have ao:=S.Ru (dat d);rw[Cq]at ao;obtain⟨aa,aj⟩:=Qyy (S.Az (dat d));have bi:U (Calls prog 84 #[.slice (some (b j)) d.length g] w λe m=>e=.returned aa/\w=m):=V ((Px b j g d w Z R.row).mono (λe m ⟨l,A⟩=>⟨by rw[l,aj],A.symm⟩));have b4:U (Ue p w d aa d.length [] (.slice none 0 0) false w):=V ⟨by rw[<-aj];unfold S.Ag;rw[Cq];simp,Z,Sqg _ _ _ _,by intro i al r;simp at r,Sr,Y⟩;rw[aj]at ao;have bm:=V a2;have bk:=V a1;clear aj a2 a1;go_enter func64,ntmps64;go_wp2_with (go_at_call 84;apply bi.m;rintro e m⟨rfl,rfl⟩)
 go_loopw [2,3,4,5,6,7] (λbg al am _ _ _ wr=>∃(a q:Nat) (f:List (S.Ac×Value×Ext)) (x:So) (y:Nat) (ab:Bool),a<=d.length/\bg=.slice x f.length y/\al=.bool ab/\am=.int .i64 a/\Ue p w d a q f bg ab wr) (λ_ _ am _ _ _ _=>d.length-(intOf am).toNat)
 case atStart=>exact⟨aa,d.length,[],none,0,false,ao,rfl,rfl,rfl,b4.q⟩
 case round=>
  obtain⟨a,q,f,x,y,ab,ch,rfl,rfl,rfl,au⟩:=hrel;have k:=V au;have cr:w<=wr.heap.size:=au.below.size;clear au;by_cases cm:a<d.length
  ·obtain⟨D,E,ah⟩:∃D E,d.drop a=D::E:=by
    cases r:d.drop a with
    |nil=>have:=congrArg List.length r;rw[Qf]at this;simp at this;omega
    |cons D E=>exact⟨D,E,rfl⟩
   have aw:d.length-a=E.length+1:=by have:=congrArg List.length ah;rw[Qf]at this;simpa using this
   have ci:a<g:=Z;obtain⟨B,af⟩:=Qyy (S.A8 (S.Ag p) ((dat d).drop a));have Q:(dat d).drop a=dat (D::E):=by rw[<-Rh,ah]
   have W:=S.Tk (S.Ag p) D.data.toList (dat E);have b5:1<=B.2/\B.2<=d.length-a:=by
    rw[<-af,Q,aw];have A:=W.2;rw[Qd,Cq]at A;exact⟨W.1,A⟩
   obtain⟨co,cq⟩:=b5;have bl:U (Calls prog 85 #[.slice (some (b (j+a))) (d.length-a) (g-a)] wr λe m=>∃ax,e=.returned (.tuple #[Gz B.1 ax,B.2])/\Co m (λL=>wr.heap.size<=L/\L<m) ax B.1.Ab/\Below wr wr m):=V (by
    have ak:=(R.below k.q.below a5).drop a;rw[ah]at ak;have:=LA p bm.q bk.q b (j+a) (g-a) D E wr Z Z ak (bp.below k.q.below) (by
     rw[<-Q];have:=Nw (dat d) a;omega)
    rw[<-Q,af,<-aw]at this;exact this)
   have a0:=V af;have ba:U ((dat d).drop a≠[]):=V (by rw[Q];simp[dat]);clear aw ah Q W af;go_wp2_with (fail);apply bl.m;rintro e v⟨ax,rfl,av,ag⟩;obtain⟨s,u,t,rfl⟩:=av.form;have bb:v.ownsRow w 110 8 (.slice x f.length y) f.length (cellsOf f):=k.q.own.kept (Below.Ll ag) (by
    cases r:(Value.slice x f.length y).ownBlock with
    |none=>exact .inl rfl
    |some z=>exact .inr Y)
   have bz:U (∀F ay,Below v v F->(F.alloc ay).ownsRow w 110 8 (.slice x f.length y) f.length (cellsOf f)):=V (λF ay b6=>(bb.kept (Below.Ll b6) (by
    cases r:(Value.slice x f.length y).ownBlock with
    |none=>exact .inl rfl
    |some z=>exact .inr Y)).alloc ay)
   have bw:U (∀(F:Sw),F.heap.size=(v:Nat)+1->∀K G,(six (B.1.put (a:Int),.slice s u t,(⟨some (b (j+a)),B.2,g-a⟩:Ext)))[K]?=some G->(F.alloc (.cells #[B.1.kind,a,.slice (some (b (j+a))) B.2 (g-a),B.1.n,(S.B B.1.info),(S.B B.1.text),B.1.Ai,.slice s u t] 110)).cell? ((((v:Nat)+1) 0:Addr).add K)=some G):=V (by
    intro F W K G bs;have bn:(((v:Nat)+1) 0:Addr).add K=⟨F.heap.size,K,none⟩:=by
     rw[W];simp only[Addr.add];split;·rename_i r;simp<;>omega
     simp<;>omega
    rw[bn];exact X (Ak _ _) K G (by rw[<-bs];simp[six,S.Ac.Vq,S.Ac.DL,S.Ac.ED,S.Ac.Zj,S.Ac.EI,S.Ac.EF]))
   have bx:U (∀G∈six (B.1.put (a:Int),.slice s u t,(⟨some (b (j+a)),B.2,g-a⟩:Ext)),G.oneCell'=true):=V (by
    intro G bd;simp[six]at bd;rcases bd with rfl|rfl|rfl|rfl|rfl|rfl|rfl|rfl<;>rfl)
   have cg:=k.q.count;have b2:=V av;have bo:=V ag;have cp:wr<=v.heap.size:=ag.size;clear av ag bb;have cf:¬g=a:=Z;have ca:(0:Int)<=(a:Int):=Z;have cb:(a:Int)<=(a:Int)+(B.2:Int):=Z;have cc:(a:Int)+(B.2:Int)<=(g:Int):=Z;have cd:(0:Int)<=(a:Int)+(B.2:Int):=Z;have cu:IntKind.i64.wrap ((a:Int)+(B.2:Int))=(a:Int)+(B.2:Int):=by rw[Sqe];omega
   have cs:((a:Int)+(B.2:Int)).toNat=a+B.2:=Z;have cn:a+B.2-a=B.2:=Z;simp only[Gz];go_wp2_with (fail);go_region
   go_wp2_with (at_builtin;refine wpList_append_lies _ I _ _ 77 I w 110 i0 (.agg #[O,O,Sx,O,(),(),false,Sx]) 8 112 underlying77 br b7 b8 b9 I Z (.slice x f.length y) f.length (cellsOf f) I (bz.q _ _ ((Below.refl _ v).alloc (Qc _) _)) (((v:Nat)+1) 0) 1 1 (six (B.1.put (a:Int),.slice s u t,(⟨some (b (j+a)),B.2,g-a⟩:Ext))) I I (bw.q _ Y) bx.q Z (by unfold maxLen;omega) Z (by simp;omega) ((v:Nat)+1+1) Y ?_)
   intro z ac H bc a8 a3 bv;have T:=V (k.q.step bo.q (B:=B.1.put (a:Int)) (by rw[S.Ac.AP];exact b2.q) bc ((((Below.refl _ v).alloc (Qc _) _).alloc Y _).drew) Y a8 a3);have a4:Below w w H:=T.q.2.2;have b3:=V (R.below a4 a5);clear bc a8 a3 bv a4;by_cases bt:a+B.2<g
   ·skip
    have bj:S.Az (dat (d.drop (a+B.2)))<=d.length-(a+B.2):=(by have:=S.Ru (dat (d.drop (a+B.2)));rw[Cq,Qf]at this;exact this);obtain⟨h,ai⟩:=Qyy (S.Az (dat (d.drop (a+B.2))));have N:U (Calls prog 84 #[.slice (some (b (j+(a+B.2)))) (d.length-(a+B.2)) (g-(a+B.2))] H λe m=>e=.returned h/\H=m):=V (by
     have ak:=b3.q.drop (a+B.2);have:=Px b (j+(a+B.2)) (g-(a+B.2)) (d.drop (a+B.2)) H (by rw[Qf];omega) ak.row;rw[Qf,ai]at this;exact this.mono (λe m ⟨l,A⟩=>⟨l,A.symm⟩))
    rw[ai]at bj;have C:U (S.Ag (p+1) (dat d)=((f++[(B.1.put (a:Int),Value.slice s u t,(⟨some (b (j+a)),B.2,g-a⟩:Ext))]).map Prod.fst++(S.rowFrom (S.Ag p) d.length (q-1) ((dat d).drop (a+B.2+h))).1,(if 0<h/\a+B.2+h<d.length then true else ab)||(S.rowFrom (S.Ag p) d.length (q-1) ((dat d).drop (a+B.2+h))).2)):=V (by
     rw[k.q.spec];obtain⟨M,ap⟩:∃M,q=M+1:=⟨q-1,by have:=k.q.fuel;omega⟩;have ae:((dat d).drop a).drop B.2=dat (d.drop (a+B.2)):=(by rw[Qbb,Rh]);have an:((dat d).drop a).drop (B.2+h)=(dat d).drop (a+B.2+h):=(by rw[Qbb];congr 1;omega);have ar:((d.length-((dat d).drop a).length:Nat):Int)=(a:Int):=(by rw[Qf,Cq];omega);rw[ap,S.Mf _ _ _ _ ba.q,a0.q,ar,ae,ai,an,SF];have bh:((dat d).drop (a+B.2+h)).isEmpty=decide (¬a+B.2+h<d.length):=by
      rw[SC,List.isEmpty_iff,List.drop_eq_nil_iff,Cq,Sd];omega
     rw[bh];by_cases P:0<h/\a+B.2+h<d.length
     ·rw[if_pos P,Sl P.1,Si (not_not_intro P.2)];simp
     rw[if_neg P];have:(decide (0<h)&&!decide (¬a+B.2+h<d.length))=false:=by
      rw[Bool.and_eq_false_iff];by_cases az:0<h
      ·exact .inr (by have:¬a+B.2+h<d.length:=λr=>P ⟨az,r⟩;simp[this])
      exact .inl (Si az)
     rw[this];simp)
    clear ai;by_cases a7:0<h
    ·by_cases a9:a+B.2+h<d.length
     ·rw[if_pos ⟨a7,a9⟩]at C;go_wp2_with (go_at_call 84;apply N.m;rintro e m⟨rfl,rfl⟩)
      go_roundw
      case rel=>
       refine⟨a+B.2+h,q-1,f++[(B.1.put (a:Int),Value.slice s u t,(⟨some (b (j+a)),B.2,g-a⟩:Ext))],some z,ac,_,Z,by rw[Qa];rfl,rfl,by go_num,?_⟩;have o:=T.q;have e:(f++[(B.1.put (a:Int),Value.slice s u t,(⟨some (b (j+a)),B.2,g-a⟩:Ext))]).length=f.length+1:=Y;have l:=o.2.1;refine⟨C.q,by have:=k.q.fuel;omega,?_,o.1,o.2.2,by rw[e];omega⟩;rw[e]at l ⊢;exact l
      case measure=>exact Sj
     rw[if_neg (λr=>a9 r.2)]at C;go_wp2_with (go_at_call 84;apply N.m;rintro e m⟨rfl,rfl⟩)
     go_roundw
     case rel=>
      refine⟨a+B.2+h,q-1,f++[(B.1.put (a:Int),Value.slice s u t,(⟨some (b (j+a)),B.2,g-a⟩:Ext))],some z,ac,_,Z,by rw[Qa];rfl,rfl,by go_num,?_⟩;have o:=T.q;have e:(f++[(B.1.put (a:Int),Value.slice s u t,(⟨some (b (j+a)),B.2,g-a⟩:Ext))]).length=f.length+1:=Y;have l:=o.2.1;refine⟨C.q,by have:=k.q.fuel;omega,?_,o.1,o.2.2,by rw[e];omega⟩;rw[e]at l ⊢;exact l
     case measure=>exact Sj
    rw[if_neg (λr=>a7 r.1)]at C;go_wp2_with (go_at_call 84;apply N.m;rintro e m⟨rfl,rfl⟩)
    go_roundw
    case rel=>
     refine⟨a+B.2+h,q-1,f++[(B.1.put (a:Int),Value.slice s u t,(⟨some (b (j+a)),B.2,g-a⟩:Ext))],some z,ac,_,Z,by rw[Qa];rfl,rfl,by go_num,?_⟩;have o:=T.q;have e:(f++[(B.1.put (a:Int),Value.slice s u t,(⟨some (b (j+a)),B.2,g-a⟩:Ext))]).length=f.length+1:=Y;have l:=o.2.1;refine⟨C.q,by have:=k.q.fuel;omega,?_,o.1,o.2.2,by rw[e];omega⟩;rw[e]at l ⊢;exact l
    case measure=>exact Sj
   have cj:d.length<=a+B.2:=Z;have ck:a+B.2<=d.length:=Z;obtain rfl:g=a+B.2:=Z;have N:U (Calls prog 84 #[.slice (some (b j)) 0 0] H λe m=>e=.returned O/\H=m):=V (by
    have:=Px b j 0 [] H Y (λi D r=>by simp at r);exact this.mono (λe m ⟨l,A⟩=>⟨l,A.symm⟩))
   have C:U (S.Ag (p+1) (dat d)=((f++[(B.1.put (a:Int),Value.slice s u t,(⟨some (b (j+a)),B.2,a+B.2-a⟩:Ext))]).map Prod.fst++(S.rowFrom (S.Ag p) d.length (q-1) ((dat d).drop (a+B.2))).1,ab||(S.rowFrom (S.Ag p) d.length (q-1) ((dat d).drop (a+B.2))).2)):=V (by
    rw[k.q.spec];obtain⟨M,ap⟩:∃M,q=M+1:=⟨q-1,by have:=k.q.fuel;omega⟩;have ae:((dat d).drop a).drop B.2=[]:=(by rw[Qbb];exact Qw (by rw[Cq];omega));have an:(dat d).drop (a+B.2)=[]:=Qw (by rw[Cq];omega);have ar:((d.length-((dat d).drop a).length:Nat):Int)=(a:Int):=(by rw[Qf,Cq];omega);rw[ap,S.Mf _ _ _ _ ba.q,a0.q,ar,ae,an,<-Qbb,ae];simp[S.Az])
   clear bt;go_wp2_with (go_at_call 84;apply N.m;rintro e m⟨rfl,rfl⟩)
   go_roundw
   case rel=>
    refine⟨a+B.2,q-1,f++[(B.1.put (a:Int),Value.slice s u t,(⟨some (b (j+a)),B.2,a+B.2-a⟩:Ext))],some z,ac,_,Z,by rw[Qa];rfl,rfl,by go_num,?_⟩;have o:=T.q;have e:(f++[(B.1.put (a:Int),Value.slice s u t,(⟨some (b (j+a)),B.2,a+B.2-a⟩:Ext))]).length=f.length+1:=Y;have l:=o.2.1;refine⟨C.q,by have:=k.q.fuel;omega,?_,o.1,o.2.2,by rw[e];omega⟩;rw[e]at l ⊢;exact l
   case measure=>exact Sj
  have bu:a=d.length:=Z;have aq:=k.q.spec;rw[Qw (by rw[Cq];omega),S.K6,Qbk,Bool.or_false]at aq;have a6:=V aq;have b1:U (Co wr (λL=>w.heap.size<=L/\L<wr) (.slice x f.length y) (f.map Prod.fst)):=V (Z5 k.q.own (λz bq=>k.q.own.lt z bq) (λi al b0=>(k.q.Ab i al b0).move (λL bf=>⟨bf.1,bf.2.1⟩) (λ_ _=>rfl)));clear aq bu;go_wp2;go_ret2;refine⟨.slice x f.length y,?_,?_,k.q.below⟩;·rw[a6.q];rfl
  rw[a6.q];exact b1.q
end Go.Proofs.YtlojgpkajkedeaaGreatDoor
namespace Go.Proofs.YtlojgpkajkedeaaGreatDoor
open Go
namespace S
theorem PL (l:List UInt8)(a:Aq l≠[]):Ap l+(Aq l).length=l.length:=by
 unfold Aq at *;split at a;·exact absurd rfl a
 rename_i d;rw[if_neg d,Qf];have:=Jz l;omega
theorem LY (l:List UInt8):(Ae l).Ao<=l.length+1:=by
 by_cases a:Bh (Aq l)=0\/Fa (Aq l) (Bh (Aq l))=false
 ·rw[Vi _ a];simp
 rw[Ve _ a];have g:=Zp (Aq l);have d:=Jz ((Aq l).drop (Bh (Aq l)));rw[Qf]at d;have f:Aq l≠[]:=by intro e;apply a;left;rw[e];rfl
 have h:=PL l f;simp only[];split<;>omega
theorem AZ (l:List UInt8)(d:(Ae l).ok=true):1<=(Ae l).Ao/\0<l.length:=by
 by_cases a:Bh (Aq l)=0\/Fa (Aq l) (Bh (Aq l))=false
 ·rw[Vi _ a]at d;simp at d
 rw[Ve _ a];have f:Aq l≠[]:=by intro e;apply a;left;rw[e];rfl
 have g:=PL l f;have h:0<(Aq l).length:=Qbf.2 f;have j:Bh (Aq l)≠0:=λe=>a (.inl e);exact⟨by simp only[];omega,Z⟩
theorem UY (m:Nat)(r:List (List UInt8))(n:Nat):bytes ((r.take n).map (λd=>d.drop m))<=bytes r:=by
 induction r generalizing n with
 |nil=>simp[bytes]
 |cons f r a=>cases n with
  |zero=>simp[bytes]
  |succ n=>have:=a n;simp only[Qz,Qs,bytes,List.sum_cons,Qf]at *;omega
theorem MO (l:List UInt8)(r:List (List UInt8))(a:(Ae l).ok=true):bytes (Ay (Ae l) (l::r))<bytes (l::r):=by
 obtain⟨f,g⟩:=AZ l a;unfold Ay;split;·simp only[bytes,Qs,List.sum_cons,List.map_nil,List.sum_nil,Qi];omega
 obtain⟨n,d⟩:∃n,Da (Ae l).Ao (l::r)=n+1:=⟨Da (Ae l).Ao (l::r)-1,by have:=Ti (Ae l).Ao (l::r);omega⟩;have h:=UY (Ae l).Ao r n;rw[d,Qz,Qs];simp only[bytes,Qs,List.sum_cons,Qf]at *;omega
theorem O6 (kind:UInt8)(l:List UInt8)(r:List (List UInt8))(a:(Cj kind (l::r)).ok=true):Cj kind (l::r)=Ae l/\(Ae l).kind=kind/\(Ae l).ok=true:=by
 unfold Cj at *;simp only[]at *;split at a
 ·simp at a
 rename_i f;simp at a;rw[if_neg f];refine⟨?_,a.2,a.1⟩;cases d:Ae l with
 |mk g b c h e=>rw[d]at a;simp at a;simp[a]
end S
