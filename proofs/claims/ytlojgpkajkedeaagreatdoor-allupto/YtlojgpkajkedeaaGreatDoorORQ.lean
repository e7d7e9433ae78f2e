import Derived.Test.YtlojgpkajkedeaaGreatDoorORN
set_option maxHeartbeats 0
set_option maxRecDepth 100000
namespace Go.Proofs.YtlojgpkajkedeaaGreatDoor
open Go.RowKit Go.Proofs.Tryz
def AB (C:List UInt8->List Rn->Prop)(j:Nat)(w:Sw)(l:List Ln)(z:Int)(k m:Nat)(a:So)(h:Nat)(g:Bool)(wr:Sw):Prop:=∃(d:List (Rn×Value)) (f:List S.Ac),m=d.length/\O4 j (Ah l) k f g/\Bb C z f (d.map Prod.fst)/\d.length<=k/\f.length=d.length/\Jv w w d (.slice a d.length h) wr
theorem zi6 (C:List UInt8->List Rn->Prop)(D:Nat)(b0:Vg C)(ax:Oi C D)(bz:Yd C D):Oi C (D+1):=by
 intro b P aw d z w d5 a1 bs b6 hd;have d9:=bs.len;have a4:=V bs;have b7:=V b6;have c4:=V b0;have c2:=V ax;have c0:=V bz;have dc:=V hd;have b2:U (∀(a m k:Nat) (j:So) (l:Bool) (wr:Sw),AB C D w d z a m j k l wr->(Ah d).length<=a+S.Az ((Ah d).drop a)->∃v o,Ending.returned (.tuple #[.slice j m k,l])=.returned (.tuple #[v,.bool (S.Ag (D+1) (Ah d)).2])/\Bv wr (λbv=>w.heap.size<=bv/\bv<wr) v o/\U (Bb C z (S.Ag (D+1) (Ah d)).1 o)/\Below w w wr):=V (by
  rintro a m k j l wr⟨g,aj,rfl,ay,ah,_,_,K⟩ M;have ak:=ay.last M;refine⟨_,g.map Prod.fst,by rw[ak],?_,V (by rw[ak];exact ah),K.below⟩;refine EG K.own (λl de=>?_) (λi p b5=>(K.Ab i p b5).move (λbv cj=>⟨cj.1,cj.2.1⟩) (λ_ _=>rfl));exact K.own.lt l de)
 clear bs b6 b0 ax bz hd;go_enter func47,ntmps47;go_wp2;go_loopw [4,5,6,7,8,9] (λdv cr W _ _ _ wr=>∃(a m:Nat) (j:So) (k:Nat) (l:Bool),a<=d.length/\W=.int .i64 a/\dv=.slice j m k/\cr=.bool l/\U (AB C D w d z a m j k l wr)) (λ_ _ W _ _ _ _=>d.length-(intOf W).toNat)
 case atStart=>exact⟨0,0,none,0,false,Qt _,rfl,rfl,rfl,V ⟨[],[],rfl,O4.start _ _,trivial,Qc _,rfl,Jv.start _ _⟩⟩
 case round=>
  obtain⟨a,m,j,k,l,d7,rfl,rfl,rfl,a3⟩:=hrel;by_cases ea:a<d.length
  ·have cx:(a:Int)<(d.length:Int):=Z;have ap:U (Below w w wr):=V (by obtain⟨g,aj,_,_,_,_,_,K⟩:=a3.q;exact K.below);go_upto_region 6 with fail
   go_loop [6] (λW=>∃i:Nat,a+i<=d.length/\W=.int .i64 ((a:Int)+(i:Int))/\U (∀s,s<i->(((Ah d).drop a)[s]?.map S.Ar)=some true)) (λW=>d.length-(intOf W).toNat)
   case atStart=>exact⟨0,Z,Y,V (by intro s bo;omega)⟩
   case round=>
    obtain⟨i,b5,rfl,bd⟩:=hrel;have d0:(0:Int)<=(a:Int)+(i:Int):=Z;have ee:((a:Int)+(i:Int)).toNat=a+i:=Z;by_cases a2:a+i<d.length
    ·obtain⟨p,ai⟩:∃p,d[a+i]?=some p:=⟨d[a+i],Qg a2⟩;have bl:=(a4.q.1 (a+i) p ai).1;have bm:=(a4.q.1 (a+i) p ai).2;have cf:=a4.q.size (a+i) p ai;have hd:=V (Jh d (a+i) p ai);obtain⟨av,bh⟩:=Qyy (S.Ar p.1.data.toList);have bb:=Lb p.1 wr cf;rw[bh]at bb;have a9:U (Calls prog 67 #[.string p.1] wr λe a7=>e=.returned av/\wr=a7):=V (bb.mono (λe a7 ⟨x,r⟩=>⟨x,r.symm⟩));have b9:=V ai;have bj:=V bh;obtain⟨Q,q⟩:=p;dsimp only at bl bm cf a9;have d6:wr.cell? (b (P+(a+i)*2))=some (.string Q):=(ap.q.cell (p:=⟨b,P+(a+i)*2,none⟩) a1).trans bl;have da:=V bm;have cy:(a:Int)+(i:Int)<(d.length:Int):=Z;clear ai bl bm bb bh;cases av
     case true=>
      have c5:U (∀s,s<i+1->(((Ah d).drop a)[s]?.map S.Ar)=some true):=V (by
       intro s bo;by_cases e:s=i
       ·subst e;rw[Qn,hd.q,Sq];exact congrArg some bj.q
       exact bd.q s Z)
      go_wp2_with (fail);apply a9.m;rintro e a7⟨rfl,rfl⟩;go_wp2;exact⟨⟨i+1,Z,by go_num,c5.q⟩,by simp[intOf];omega⟩
     have bn:U (S.Az ((Ah d).drop a)=i):=V (S.V3 _ i bd.q (by rw[Qn,hd.q,Sq];intro e;rw[show S.Ar ((Q,q):Ln).1.data.toList=false from bj.q]at e;simp at e));go_wp2_with (fail);apply a9.m;rintro e a7⟨rfl,rfl⟩;have cz:(((a:Int)+(i:Int)) == (d.length:Int))=false:=(by rw[Qe];omega);have d2:¬(a:Int)+(i:Int)=(d.length:Int):=Z;go_upto_region 9 with fail
     obtain⟨L,b3⟩:∃L:Bool,(l||(decide (0<i)&&decide (0<m)))=L:=⟨_,rfl⟩;have ar:=V b3;clear b3;go_cut [5] (λdw dx=>dw=.bool L/\wr=dx)
     case first=>
      cases l
      ·by_cases x:0<i
       ·have ct:(a:Int)<(a:Int)+(i:Int):=Z;have cu:(0:Int)<(i:Int):=Z;by_cases r:0<m
        ·have cv:(0:Int)<(m:Int):=Z;have M:U (L=true):=V (by rw[<-ar.q,Sl x,Sl r];rfl);go_wp2;go_meet;exact⟨by rw[M.q],rfl⟩
        have cv:¬(0:Int)<(m:Int):=Z;have M:U (L=false):=V (by rw[<-ar.q,Sl x,Si r];rfl);go_wp2;go_meet;exact⟨by rw[M.q],rfl⟩
       have ct:¬(a:Int)<(a:Int)+(i:Int):=Z;have cu:¬(0:Int)<(i:Int):=Z;have M:U (L=false):=V (by rw[<-ar.q,Si x];rfl);go_wp2;go_meet;exact⟨by rw[M.q],rfl⟩
      have M:U (L=true):=V (by rw[<-ar.q];rfl);go_wp2;go_meet;exact⟨by rw[M.q],rfl⟩
     case rest=>
     obtain⟨rfl,rfl⟩:=hcut;have aq:d.drop (a+i)=(Q,q)::d.drop (a+i+1):=by
      rw[Qm a2];congr 1
      have:=b9.q;rw[Qg a2]at this;exact Qy this
     obtain⟨ae,bu⟩:=Qyy (d.drop (a+i+1));rw[bu]at aq;have bp:ae.length+1=d.length-(a+i):=(by rw[<-bu,Qf];omega);obtain⟨f,az⟩:=Qyy (S.A8 (S.Ag D) (Ah (((Q,q):Ln)::ae)));have bt:=(a4.q.below ap.q a1).drop (a+i);have bq:=b7.q.drop (a+i);rw[aq]at bt bq;have bk:b<wr:=Qh a1 ap.q.size;have ba:=zed C D c4.q c2.q c0.q b (P+(a+i)*2) (aw-(a+i)) ((Q,q):Ln) ae (z+((a+i:Nat):Int)) wr Z bt bq bk bj.q (by
      rw[<-aq,EM];have:=Nw (Ah d) (a+i);have:=dc.q;omega)
     rw[az,bp]at ba;obtain⟨t,n,y,A,R,bw,bc⟩:∃t n y A R,Rj f t n y A R/\(t=f.1.kind/\n=f.1.n/\y=S.B f.1.info/\A=S.B (Ec f.1.kind f.1.text f.1.Ai)/\R=(f.2:Int)):=⟨f.1.kind,f.1.n,S.B f.1.info,S.B (Ec f.1.kind f.1.text f.1.Ai),(f.2:Int),⟨λdu o=>rfl,rfl⟩,rfl,rfl,rfl,rfl,rfl⟩;have bx:=V bc;have a5:=S.Tk (S.Ag D) Q (Ah ae);rw[show S.A8 (S.Ag D) (Q.data.toList::Ah ae)=f from az]at a5;have au:U (1<=f.2/\a+i+f.2<=d.length):=V ⟨a5.1,by have r:=a5.2;simp only[Qd,F4]at r;omega⟩;have cg:U (0<R/\(a:Int)+(i:Int)+R<=(d.length:Int)):=V (by have:=bc.2.2.2.2;have:=au.q;omega);have eg:IntKind.i64.wrap ((a:Int)+(i:Int)+R)=(a:Int)+(i:Int)+R:=(by rw[Sqe];have:=cg.q;omega);clear a5 bc;have ak:=V bw;have cw:U (Calls prog 68 #[.slice (some (b (P+(a+i)*2))) (d.length-(a+i)) (aw-(a+i))] wr (Tx C (z+((a+i:Nat):Int)) f.1 wr t n y A R)):=V (ba.mono (by
      rintro e af⟨du,o,rfl,ca,ah,c6⟩;obtain⟨E,G,F,rfl⟩:=ca.form;exact⟨E,G,F,o,by rw[ak.q.1,ak.q.2],V ⟨ca,ah.q,c6⟩⟩))
     have d3:(a:Int)+(i:Int)<=(d.length:Int):=Z;have d4:(a:Int)+(i:Int)<=(aw:Int):=Z;have eb:¬aw=a+i:=Z;have c1:=V az;have d8:=V bp;have dd:=V aq;clear ba bw bt bq az bp aq bu;go_wp2_with (fail);apply cw.m;rintro e h⟨E,G,F,o,rfl,al⟩;go_upto_region 11 with fail
     obtain⟨T,am⟩:=Qzz (h.alloc (.cells #[O,.int .i64 t,.int .i64 n,.string y,.string A,O,.slice E G F] 118));rw[<-am];have bf:Below h h T:=(by rw[am];exact Sr.alloc (Qc _) _);have cb:T.heap.size=(h:Nat)+1:=(by rw[am];simp);have a6:T.heap[h.heap.size]?=some (.cells #[O,.int .i64 t,.int .i64 n,.string y,.string A,O,.slice E G F] 118 (0,0)):=(by rw[am];exact Ak _ _);have c9:b<h:=Qh bk al.q.2.2.size;have db:T.cell? (b (P+(a+i)*2+1))=some (.int .i64 q):=(bf.cell (p:=⟨b,P+(a+i)*2+1,none⟩) c9).trans ((al.q.2.2.cell (p:=⟨b,P+(a+i)*2+1,none⟩) bk).trans ((ap.q.cell (p:=⟨b,P+(a+i)*2+1,none⟩) a1).trans da.q));have cl:=X a6 5 _ rfl;have cq:=Av a6;obtain⟨u,an⟩:=Qzz (T.setCell (h 5) (.int .i64 q));have ck:u.heap[h.heap.size]?=some (.cells #[O,.int .i64 t,.int .i64 n,.string y,.string A,q,.slice E G F] 118 (0,0)):=(by rw[an];exact Aj (cs:=[.int .i64 0,.int .i64 t,.int .i64 n,.string y,.string A,.int .i64 0,.slice E G F]) a6 5 _);have b1:Below h h u:=(by rw[an];exact bf.setCell (p:=⟨h,5,none⟩) (Qc _) _);have cc:u.heap.size=(h:Nat)+1:=(by rw[an];simp[World.setCell,cb]);have c3:=V an;have ac:=V ck;have bg:=V b1;have cd:=V cc;clear am bf cb a6 an ck b1 cc;go_upto_region 12 with fail
     rw[<-c3.q];clear db cl cq;have eh:=X ac.q 0 _ rfl;have ei:=X ac.q 1 _ rfl;have ej:=X ac.q 2 _ rfl;have ek:=X ac.q 3 _ rfl;have el:=X ac.q 4 _ rfl;have em:=X ac.q 5 _ rfl;have en:=X ac.q 6 _ rfl;obtain⟨g,aj,rfl,ay,ah,dr,bi,K⟩:=a3.q;obtain⟨i0,dg,dh,di,dj⟩:=info_parts Tryz.EW;have ci:w<=wr.heap.size:=ap.q.size;have ao:Below wr wr h:=al.q.2.2;have ef:w<=h.heap.size:=Qj ci ao.size;have c7:U (∀H,Below h h (u.alloc H)):=V (λH=>bg.q.alloc bg.q.size H);have dq:U (∀H,(u.alloc H).ownsRow w 118 7 (.slice j g.length k) g.length (Gm g)):=V (λH=>(K.own.kept (Below.Ll (ao.trans (bg.q.mono ao.size))) (by
      cases a8:(Value.slice j g.length k).ownBlock with
      |none=>exact .inl rfl
      |some l=>exact .inr Y)).alloc H)
     have dm:U (∀s v,([O,.int .i64 t,.int .i64 n,.string y,.string A,q,.slice E G F]:List Value)[s]?=some v->(u.alloc (.cells #[O,.int .i64 t,.int .i64 n,.string y,.string A,q,.slice E G F] 118)).cell? ((u:Addr).add s)=some v):=V (λs v bo=>World.news_of_block (Ak _ _) s v (by exact bo));have dp:U (∀v∈([O,.int .i64 t,.int .i64 n,.string y,.string A,q,.slice E G F]:List Value),v.oneCell'=true):=V (by
      intro v ch;simp at ch;rcases ch with rfl|rfl|rfl|rfl|rfl|rfl|rfl<;>rfl)
     have ds:U (∀H N ag af,af.ownsRow w 118 7 (.slice (some ⟨N,0,none⟩) (g.length+1) ag) (g.length+1) (Gm g++[.int .i64 0,.int .i64 t,.int .i64 n,.string y,.string A,.int .i64 q,.slice E G F])->(u.alloc H).grownBy af (Value.slice j g.length k).ownBlock->((Value.slice j g.length k).ownBlock=some N\/h.heap.size<=N)->AB C D w d z (a+i+f.2) (g.length+1) (some ⟨N,0,none⟩) ag L af):=V (λH N ag af dn df a0=>by
      obtain⟨cm,cn,co,cp,dy⟩:=bx.q;have dt:q=z+((a+i:Nat):Int):=b7.q (a+i) (Q,q) b9.q;refine⟨g++[(.nd f.1.kind f.1.n f.1.info (Ec f.1.kind f.1.text f.1.Ai) q o,.slice E G F)],aj++[f.1.put ((a+i:Nat):Int)],Y,?_,?_,?_,by simp[bi],?_⟩
      ·have ce:=ay.step bn.q (by rw[F4];exact a2) (b:=f.1) (z:=f.2) (by rw[<-EM,dd.q];exact c1.q) au.q.1 (by rw[F4];exact au.q.2);have c8:(!aj.isEmpty)=decide (0<g.length):=(by rw[<-bi];cases aj<;>simp);rw[c8,ar.q]at ce;exact ce
      ·rw[Qv];refine ah.append ?_;simp only[Qs,List.map_nil,Bb,and_true];rw[dt];exact zio al.q.2.1
      ·rw[Qa];have:=au.q.1;simp;omega
      refine K.step ci ao al.q.1 ?_ (c7.q H) df a0;subst cm cn co cp;exact dn)
     have ed:w<=u.heap.size:=(by have:=cd.q;omega);have ec:g.length+1<=1000001:=Z;clear ay ah dr bi K ao;go_wp2_with (at_builtin;refine wpList_append_lies _ I _ _ 80 I w 118 i0 (.agg #[O,O,O,(),(),O,Sx]) 7 88 underlying80 dg dh di dj I Z (.slice j g.length k) g.length (Gm g) I (dq.q _) u 1 1 [.int .i64 0,.int .i64 t,.int .i64 n,.string y,.string A,.int .i64 q,.slice E G F] I I dm.q dp.q Z (by unfold maxLen;omega) Z (by simp;omega) ((u:Nat)+1) Y ?_)
     intro N ag af b8 b4 a0 dl;have ax:=V (ds.q _ N ag af b8 b4 (by rcases a0 with a8|a8;exact .inl a8;exact .inr (by have:=cd.q;omega)))
     clear b8 b4 a0 dl;go_wp2;go_roundw
     case rel=>exact⟨a+i+f.2,g.length+1,some ⟨N,0,none⟩,ag,L,au.q.2,by rw[bx.q.2.2.2.2];go_num,rfl,rfl,ax⟩
     case measure=>simp[intOf];have:=cg.q;omega
    have dk:a+i=d.length:=Z;have bn:U (S.Az ((Ah d).drop a)=i):=V (S.V3 _ i bd.q (by rw[Qn,Qr (by rw[F4];omega)];simp));have br:=V (b2.q a m k j l wr a3.q (by rw[bn.q,F4];omega));have cy:¬(a:Int)+(i:Int)<(d.length:Int):=Z;have d1:(a:Int)+(i:Int)=(d.length:Int):=Z;have cz:(((a:Int)+(i:Int)) == (d.length:Int))=true:=(by rw[Sqb];omega);clear dk;go_wp2;refine Sqk (v:=.tuple #[.slice j m k,l]) (by simp[results,results47,go_sem]) rfl ?_;obtain⟨v,o,x,r,aa,ab⟩:=br.q;first|exact⟨v,o,x,r,aa,ab⟩|exact⟨v,x,o,r,aa,ab⟩|exact⟨v,x,⟨o,r,aa⟩,ab⟩
  have cx:¬(a:Int)<(d.length:Int):=Z;have br:=V (b2.q a m k j l wr a3.q (by rw[F4];omega));go_wp2;refine Sqk (v:=.tuple #[.slice j m k,l]) (by simp[results,results47,go_sem]) rfl ?_;obtain⟨v,o,x,r,aa,ab⟩:=br.q;first|exact⟨v,o,x,r,aa,ab⟩|exact⟨v,x,o,r,aa,ab⟩|exact⟨v,x,⟨o,r,aa⟩,ab⟩
def Nt (d:Nat)(m:S.Mark)(row:List (List UInt8))(k:Nat)(a:List UInt8)(g:List S.Ac)(h:Bool):Prop:=row[k]?=some a/\(S.Ae a).ok=true/\∃f,row.length-k<=f /\
 S.G9 (S.Ag d) m row=(.mk 6 m.Al [] [] (h||(S.Bt (S.Ag d) m.kind row.length f (S.Ae a) (row.drop k)).2.1) (g++(S.Bt (S.Ag d) m.kind row.length f (S.Ae a) (row.drop k)).1),k+(S.Bt (S.Ag d) m.kind row.length f (S.Ae a) (row.drop k)).2.2)
theorem Nt.start (d:Nat)(a:List UInt8)(r:List (List UInt8))(f:(S.Ae a).ok=true):Nt d (S.Ae a) (a::r) 0 a [] false:=by
 refine⟨rfl,f,(a::r).length,Z,?_⟩;rw[List.drop_zero,Nat.zero_add,Bool.false_or,SY];rfl
def Ox (a:Nat)(k:Nat)(own:List (List UInt8)):S.Ac:=.at_ (k:Int) 7 0 [] [] false (S.Ag a own).1
theorem Nt.last {a:Nat}{m:S.Mark}{row:List (List UInt8)}{k:Nat}{g:List UInt8}{h:List S.Ac}{j:Bool}(f:Nt a m row k g h j){own:List (List UInt8)}(t:S.Ay (S.Ae g) (row.drop k)=own){gap:Nat}(r:S.Az (row.drop (k+own.length))=gap)(s:(S.Cj m.kind (row.drop (k+own.length+gap))).ok=false):S.G9 (S.Ag a) m row=(.mk 6 m.Al [] [] (j||(S.Ag a own).2) (h++[Ox a k own]),k+own.length):=by
 obtain⟨u,y,d,v,f⟩:=f;have x:=(Qb.1 u).1;obtain⟨d,rfl⟩:∃q,d=q+1:=⟨d-1,Z⟩;have e:S.Bt (S.Ag a) m.kind row.length (d+1) (S.Ae g) (row.drop k)=([Ox a k own],(S.Ag a own).2,own.length):=by
  simp only[S.Bt];have l:(row.drop k).drop own.length=row.drop (k+own.length):=by rw[Qbb]
  have o:(row.drop k).drop (own.length+gap)=row.drop (k+own.length+gap):=by rw[Qbb,Nat.add_assoc]
  rw[t,l,r,o,s,Qf,if_neg Y];have p:row.length-(row.length-k)=k:=Z;rw[p];rfl
 rw[f,e]
theorem Nt.step {a:Nat}{m:S.Mark}{row:List (List UInt8)}{k:Nat}{o:List UInt8}{p:List S.Ac}{q:Bool}(l:Nt a m row k o p q){own:List (List UInt8)}(y:S.Ay (S.Ae o) (row.drop k)=own){gap:Nat}(x:S.Az (row.drop (k+own.length))=gap)(h:(S.Cj m.kind (row.drop (k+own.length+gap))).ok=true)(D:1<=own.length):∃d,Nt a m row (k+own.length+gap) d (p++[Ox a k own]) (q||(S.Ag a own).2||decide (0<gap)):=by
 obtain⟨z,G,f,E,l⟩:=l;have F:=(Qb.1 z).1;obtain⟨f,rfl⟩:∃v,f=v+1:=⟨f-1,Z⟩;cases g:row.drop (k+own.length+gap) with
 |nil=>rw[g]at h;simp[S.Cj]at h
 |cons d j=>
  rw[g]at h;obtain⟨C,H,r⟩:=S.O6 m.kind d j h;refine⟨d,?_,r,f,Z,?_⟩
  ·have:=congrArg (λA=>A[0]?) g;simpa [List.getElem?_drop]using this
  have e:S.Bt (S.Ag a) m.kind row.length (f+1) (S.Ae o) (row.drop k)=(Ox a k own::(S.Bt (S.Ag a) m.kind row.length f (S.Ae d) (d::j)).1,(S.Ag a own).2||decide (0<gap)||(S.Bt (S.Ag a) m.kind row.length f (S.Ae d) (d::j)).2.1,own.length+gap+(S.Bt (S.Ag a) m.kind row.length f (S.Ae d) (d::j)).2.2):=by
   simp only[S.Bt];have s:(row.drop k).drop own.length=row.drop (k+own.length):=by rw[Qbb]
   have t:(row.drop k).drop (own.length+gap)=row.drop (k+own.length+gap):=by rw[Qbb,Nat.add_assoc]
   rw[y,s,x,t,g,C,r,Qf,if_pos rfl];have u:row.length-(row.length-k)=k:=Z;rw[u];rfl
  rw[l,e,g];refine Prod.ext ?_ ?_;·simp only[Qp,List.singleton_append,Bool.or_assoc]
  dsimp only;omega
theorem zb9 (C:List UInt8->List Rn->Prop)(g:Vg C)(f:∀a,Oi C a->Yd C a)(a:Nat):Oi C a:=by
 induction a with
 |zero=>
  intro b k h j l w _ _ _ _ hd;exact absurd hd (Nat.not_lt_zero _)
 |succ a d=>exact zi6 C a g d (f a d)
theorem Jv.JY {B:Nat}{w wr:Sw}{ps:List (Rn×Value)}{v:Value}(h:Jv B w ps v wr)(N f:Nat)(o:N<B)(g:Value):Jv B (wr.setCell (N f) g) ps v (wr.setCell (N f) g):=by
 have j:∀a,B<=a->(wr.setCell (N f) g).heap[a]?=wr.heap[a]?:=λa d=>Below.heap_setCell _ _ _ _ (by show a≠N;omega);have l:(wr.setCell (N f) g).heap.size=wr.heap.size:=by simp[World.setCell]
 refine⟨V6 h.own (λa d _=>j a d),λi m k=>(h.Ab i m k).move (λa d=>⟨d.1,by rw[l];exact d.2.1,d.2.2⟩) (λa d=>j a d.1),Sr⟩
theorem Jv.after {B:Nat}{w wr h:Sw}{ps:List (Rn×Value)}{v:Value}(f:Jv B w ps v wr)(g:Below wr wr h):Jv B h ps v h:=by
 have m:=f.own.lt;refine⟨V6 f.own (λd _ k=>g.block d k),λi l j=>(f.Ab i l j).move (λd a=>⟨a.1,Qh a.2.1 g.size,a.2.2⟩) (λd a=>g.block d a.2.1),Sr⟩
structure EO (C:List UInt8->List Rn->Prop)(d:Nat)(m:S.Mark)(w W3:Sw)(ls:List Ln)(z:Int)(k n':Nat)(a:So)(cp:Nat)(lo:Bool)(ps:List (Rn×Value))(bs:List S.Ac)(x:List UInt8)(wr:Sw):Prop where
 num:n'=ps.length
 at_:Nt d m (Ah ls) k x bs lo
 mat:Bb C z bs (ps.map Prod.fst)
 same:bs.length=ps.length
 count:ps.length<=k
 row:Jv ((w:Nat)+3) wr ps (.slice a n' cp) wr
 q:wr.heap[(w:Nat)+2]?=some (.cells #[O,(6:Int),m.Al,(),(S.B (Ec 6 [] lo)),O,.slice a n' cp] 118 (0,0))
 below:Below ((w:Nat)+2) W3 wr
 size:(w:Nat)+3<=wr.heap.size
structure HZ (W4:Sw)(pb:Nat)(y:Int)(ka:So)(kn kc:Nat)(ns:List Rn)(wx:Sw):Prop where
 below:Below W4 W4 wx
 blk:wx.heap[pb]?=some (.cells #[O,(7:Int),O,(),(),y,.slice ka kn kc] 118 (0,0))
 rep:Bv wx (λx=>W4.heap.size<=x/\x<wx) (.slice ka kn kc) ns
theorem zmc {k j a:Sw}{m:Int}{f:So}{h g:Nat}{ns:List Rn}(o:Below k k j)(s:Bv a (λd=>j.heap.size<=d/\d<a) (.slice f h g) ns)(p:Below j j a):HZ k a m f h g ns (a.alloc (.cells #[O,(7:Int),O,(),(),m,.slice f h g] 118)):=by
 have r:=o.size;have t:=p.size;have q:Below a a (a.alloc (.cells #[O,(7:Int),O,(),(),m,.slice f h g] 118)):=Sr.alloc (Qc _) _;exact⟨(o.trans (p.mono r)).alloc Z _,Ak _ _,s.move (λd l=>⟨Z,Qh l.2 q.size⟩) (λd l=>q.block d l.2)⟩
theorem zba {a d g:Sw}{p:Int}{k:So}{m l:Nat}{ns:List Rn}(o:Below a a d)(t:d.heap.size=(a:Nat)+1)
  (f:d.heap[a.heap.size]?=some (.cells #[O,O,O,(),(),O,Sx] 118 (0,0)))
  (r:Bv g (λh=>d.heap.size<=h/\h<g) (.slice k m l) ns) (j:Below d d g) :
  HZ a a p k m l ns (((((((g.setCell a (.int .i64 0)).setCell (a 1) (.int .i64 7)).setCell (a 2) (.int .i64 0)).setCell (a 3) (.string ⟨#[]⟩)).setCell (a 4) (.string ⟨#[]⟩)).setCell (a 5) (.int .i64 p)).setCell (a 6) (.slice k m l)):=by
 have q:=o.size;have s:=j.size;exact⟨Iq (o.trans (j.mono q)) (Qc _) _ _ _ _ _ _ _,I8 ((j.block a Z).trans f) _ _ _ _ _ _ _,(Ke r (N:=a.heap.size) (λh f e=>Z) _ _ _ _ _ _ _).move (λh f=>⟨Z,by rw[J9];exact f.2⟩) (λ_ _=>rfl)⟩
structure Nu (C:List UInt8->List Rn->Prop)(d:Nat)(m:S.Mark)(w W3:Sw)(ls:List Ln)(z:Int)(k:Nat)(a:So)(cp:Nat)(lo lo2:Bool)(Ow:List (List UInt8))(ps:List (Rn×Value))(bs:List S.Ac)(x:List UInt8)(wr:Sw):Prop where
 at_:Nt d m (Ah ls) k x bs lo
 mat:Bb C z (bs++[Ox d k Ow]) (ps.map Prod.fst)
 same:(bs++[Ox d k Ow]).length=ps.length
 count:ps.length<=k+1
 row:Jv ((w:Nat)+3) wr ps (.slice a ps.length cp) wr
 q:wr.heap[(w:Nat)+2]?=some (.cells #[O,(6:Int),m.Al,(),(S.B (Ec 6 [] lo2)),O,.slice a ps.length cp] 118 (0,0))
 below:Below ((w:Nat)+2) W3 wr
 size:(w:Nat)+3<=wr.heap.size
theorem Nu.after {C:List UInt8->List Rn->Prop}{o:Nat}{m:S.Mark}{w h:Sw}{r:List Ln}{z:Int}{k:Nat}{a:So}{l:Nat}{p q:Bool}{g:List (List UInt8)}{ps:List (Rn×Value)}{j:List S.Ac}{t:List UInt8}{wr s:Sw}(d:Nu C o m w h r z k a l p q g ps j t wr)(f:Below wr wr s):Nu C o m w h r z k a l p q g ps j t s:=by
 have u:=d.size;have v:=f.size;exact⟨d.at_,d.mat,d.same,d.count,d.row.after f,(f.block _ Z).trans d.q,d.below.trans (f.mono Z),Z⟩
theorem Nu.Ai {C:List UInt8->List Rn->Prop}{l:Nat}{m:S.Mark}{w h:Sw}{r:List Ln}{z:Int}{k:Nat}{a:So}{f:Nat}{o q:Bool}{g:List (List UInt8)}{ps:List (Rn×Value)}{j:List S.Ac}{s:List UInt8}{wr:Sw}(d:Nu C l m w h r z k a f o q g ps j s wr):Nu C l m w h r z k a f o true g ps j s (wr.setCell (((w:Nat)+2) 4) (.string ⟨#[108,111,111,115,101]⟩)):=by
 refine⟨d.at_,d.mat,d.same,d.count,d.row.JY ((w:Nat)+2) 4 Z _,?_,d.below.setCell (p:=⟨(w:Nat)+2,4,none⟩) (Qc _) _,by have:=d.size;simpa [World.setCell]using this⟩;exact Aj (cs:=[.int .i64 0,.int .i64 6,.int .i64 m.Al,.string ⟨#[]⟩,.string (S.B (Ec 6 [] q)),.int .i64 0,.slice a ps.length f]) d.q 4 _
theorem Nu.next {C:List UInt8->List Rn->Prop}{h:Nat}{m:S.Mark}{w o:Sw}{g:List Ln}{z:Int}{k:Nat}{a:So}{q:Nat}{s j:Bool}{d:List (List UInt8)}{ps:List (Rn×Value)}{p:List S.Ac}{t:List UInt8}{wr:Sw}(f:Nu C h m w o g z k a q s j d ps p t wr)
  (A:S.Ay (S.Ae t) ((Ah g).drop k)=d) {gap:Nat} (v:S.Az ((Ah g).drop (k+d.length))=gap) (y:(S.Cj m.kind ((Ah g).drop (k+d.length+gap))).ok=true) (u:1<=d.length) (x:j=(s||(S.Ag h d).2||decide (0<gap))) :
  ∃l,EO C h m w o g z (k+d.length+gap) ps.length a q j ps (p++[Ox h k d]) l wr:=by
 obtain⟨l,r⟩:=f.at_.step A v y u;rw[<-x]at r;exact⟨l,rfl,r,f.mat,f.same,by have:=f.count;omega,f.row,f.q,f.below,f.size⟩
theorem zad (C:List UInt8->List Rn->Prop)(K:Nat)(d7:Oi C K):Yd C K:=by
 intro b a0 b7 g f a2 w j ib cd di e4 e1 e6 hd;obtain⟨bg,bt⟩:=Qzz (w.alloc (.cells #[.int .u8 (j.kind.toNat:Int),j.Al,j.empty,j.Ao] 150));have dl:bg.heap.size=(w:Nat)+1:=by rw[bt];simp
 have ec:Below w w bg:=by rw[bt];exact Sr.alloc (Qc _) _
 have Q:bg.heap[w.heap.size]?=some (.cells #[.int .u8 (j.kind.toNat:Int),j.Al,j.empty,j.Ao] 150 (0,0)):=by rw[bt];exact Ak _ _
 obtain⟨a3,d9,cb,fe,aq⟩:=Rq bg;obtain⟨b5,dg⟩:=Qyy (j.Al);obtain⟨ab,bu⟩:=Qzz (a3.alloc (.cells #[O,(6:Int),b5,(),.string ⟨#[116,105,103,104,116]⟩,O,Sx] 118));have fg:ab.heap.size=(w:Nat)+3:=by rw[bu];simp;omega
 have aw:Below a3 a3 ab:=by rw[bu];exact Sr.alloc (Qc _) _
 have fk:ab.heap[(w:Nat)+2]?=some (.cells #[O,(6:Int),b5,(),.string ⟨#[116,105,103,104,116]⟩,O,Sx] 118 (0,0)):=by rw[bu,show (w:Nat)+2=a3.heap.size by omega];exact Ak _ _
 have c4:Below w w ab:=ec.trans ((cb.trans (aw.mono Z)).mono Z);have gc:=di.len;simp only[Qd]at gc;have hm:a3.cell? (w 1)=some (.int .i64 b5):=by rw[<-dg];exact X ((cb.block w Z).trans Q) 1 _ rfl
 have fm:ab.heap[w.heap.size]?=_:=((aw.block w Z).trans ((cb.block w Z).trans Q));have fo:ab.heap[(w:Nat)+1]?=some (.cells #[O,O,O,(),(),O,Sx] 118 (0,0)):=(aw.block ((w:Nat)+1) Z).trans (by rw[<-dl];exact aq);have cj:=V (di.below c4 cd);have e5:=V e4;have f1:=V d7;have ga:=V hd;have e2:=V e1;have gj:=V e6;have gh:=V dg;have f2:=V bt;have f3:=V d9;have f4:=V bu;have gs:=V fk;have gt:=V fm;have gw:=V fo;have c5:=V c4;have gl:=V dl;have gm:=V fe;have gn:=V fg;have i1:w<a3.heap.size:=Z;have h8:b<ab:=Z;clear di e4 d7 hd e1 e6 dg bt d9 bu fk fm fo c4 dl fe fg ec cb aw Q aq;go_enter func98,ntmps98;go_upto_region 1 with fail
 rw[<-f2.q,<-f3.q];go_upto_region 2 with fail
 rw[<-f4.q,show a3.heap.size=(w:Nat)+2 from by have:=gl.q;have:=gm.q;omega];go_wp2;go_loopw [7,8,9,10,11,12,13,14,15,16,17] (λco _ _ _ _ _ _ _ _ _ _ wr=>∃(d fs:Nat) (ak:So) (al:Nat) (H:Bool),d<f.length+1/\co=.int .i64 d/\U (∃l bq aa,EO C K j w ab (g::f) a2 d fs ak al H l bq aa wr)) (λco _ _ _ _ _ _ _ _ _ _ _=>f.length+1-(intOf co).toNat)
 case atStart=>
  refine⟨0,0,none,0,false,Z,rfl,V ⟨[],[],g.1.data.toList,rfl,?_,trivial,rfl,Qc _,Jv.start _ _,?_,Sr,by rw[gn.q];exact Qc _⟩⟩
  ·have:=Nt.start K g.1.data.toList (Ah f) (by rw[e2.q];exact gj.q);rw[e2.q]at this;exact this
  rw[gh.q];exact gs.q
 case round=>
  obtain⟨d,fs,ak,al,H,db,rfl,fd⟩:=hrel;obtain⟨l,bq,aa,bs⟩:=fd.q;obtain⟨p,k⟩:∃p,(g::f)[d]?=some p:=⟨(g::f)[d]'(by simpa using db),Qg (by simpa using db)⟩;have fn:p.1.data.toList=aa:=by have:=bs.at_.1;rw[Jh _ d p k]at this;exact Qy this
  have c8:Below w w wr:=c5.q.trans (bs.below.mono Z);have h6:b<wr:=Qh cd c8.size;have am:=(cj.q.1 d p k).1;have af:=cj.q.size d p k;have ek:wr.cell? (b (a0+d*2))=some (.string p.1):=(bs.below.cell (p:=⟨b,a0+d*2,none⟩) (by show b<(w:Nat)+2;omega)).trans am;have cu:=V (Xj p.1 wr af);have hx:(0:Int)<=(d:Int):=Z;have hy:(d:Int)<(f.length:Int)+1:=Z;have F:=V bs;have fa:=V k;have gv:=V fn;have eg:=V c8;obtain⟨au,x⟩:=p;dsimp only at ek cu af;clear bs k fn c8 am fd;go_wp2_with fail
  apply cu.m;rintro e u⟨ay,az,bb,bc,rfl,dx,c2⟩;obtain⟨ac,bv⟩:=Qzz (u.alloc (.cells #[.int .u8 ay,az,bb,bc] 150));have fh:ac.heap.size=(u:Nat)+1:=by rw[bv];simp
  have ed:Below u u ac:=by rw[bv];exact Sr.alloc (Qc _) _
  have bn:ac.heap[u.heap.size]?=some (.cells #[.int .u8 ay,az,bb,bc] 150 (0,0)):=by rw[bv];exact Ak _ _
  have b0:Below wr wr ac:=c2.trans (ed.mono c2.size);have ea:=V bv;clear bv;go_upto_region 4 with fail
  rw[<-ea.q];obtain⟨ag,bj⟩:=Qyy (S.Ae aa);have ck:au.data.toList=aa:=gv.q;have d4:ag.ok=true:=by rw[<-bj];exact F.q.at_.2.1
  obtain⟨cp,du,cq,cr⟩:ay=(ag.kind.toNat:Int)/\az=ag.Al/\bb=ag.empty/\bc=(ag.Ao:Int):=by
   have:=dx.q (by rw[ck,bj];exact d4);rw[ck,bj]at this;exact this
  have c9:d<(g::f).length:=by simpa using db
  have bl:(g::f).drop d=(au,x)::(g::f).drop (d+1):=by
   rw[Qm c9];congr 1
   have:=fa.q;rw[Qg c9]at this;exact Qy this
  obtain⟨av,dn⟩:=Qyy ((g::f).drop (d+1));rw[dn]at bl;have ch:av.length+1=f.length+1-d:=by rw[<-dn,Qf,Qd];omega
  have ce:Ah (((au,x):Ln)::av)=(Ah (g::f)).drop d:=by rw[<-bl,EM]
  obtain⟨o,b9⟩:=Qyy (S.Ay ag (Ah (((au,x):Ln)::av)));have d6:U (S.Ay (S.Ae aa) ((Ah (g::f)).drop d)=o):=V (by rw[<-ce,bj];exact b9);obtain⟨ao,b1⟩:=Qyy ((S.Ag K o).2);have d2:1<=o.length/\d+o.length<=f.length+1:=by
   have:=Yg ag au (Ah av);have e:S.Ay ag (au.data.toList::Ah av)=o:=b9;rw[e,F4]at this;omega
  have dp:x=a2+(d:Int):=e5.q d (au,x) fa.q;have dj:∀h,After ac h->Fz h b (a0+d*2) (((au,x):Ln)::av)/\b<h.heap.size/\h.heap[u.heap.size]?=some (.cells #[.int .u8 ay,az,bb,bc] 150 (0,0)):=λh P=>by
   have r:=eg.q.trans (b0.mono eg.q.size);have M:=r.trans (Below.mono P r.size);have a5:=((cj.q.below (F.q.below.trans ((b0.trans (Below.mono P b0.size)).mono (by have:=F.q.size;omega))) Z).drop d);rw[bl]at a5;exact⟨a5,Qh cd M.size,(P.block _ Z).trans bn⟩
  have d5:U (∀h,After ac h->Calls prog 142 #[.slice (some (b (a0+d*2))) (f.length+1-d) (b7-d),.agg #[.int .u8 ay,az,bb,bc]] h λe W=>∃y A z ae,e=.returned (.tuple #[.agg #[O,(7:Int),O,(),(),.int .i64 x,.slice y A z],o.length,ao])/\(W.cell? u=some (.int .u8 ay)/\W.cell? (u 1)=some (.int .i64 az)/\W.cell? (u 2)=some (.bool bb)/\W.cell? (u 3)=some (.int .i64 bc))/\u.heap.size<W.heap.size/\ac.heap.size<=W.heap.size/\h.heap.size<=W.heap.size/\U (Bv W (λdr=>h.heap.size<=dr/\dr<W) (.slice y A z) ae/\Bb C (a2+(d:Int)) (S.Ag K o).1 ae/\Below h.heap.size h W)):=V (λh P=>by
   obtain⟨r,M,a5⟩:=dj h P;have df:=e5.q.drop d;rw[bl]at df;have ei:=zl3 C K f1.q b (a0+d*2) (b7-d) ((au,x):Ln) av (a2+(d:Int)) h ay az r df M Z ag (by rw[<-bj,<-ck]) d4 (by
    rw[ce];have:=Nw (Ah (g::f)) d;have:=ga.q;omega)
   rw[ch,b9,b1,<-cq,<-cr]at ei;refine ei.mono ?_;rintro e W⟨kv,ae,rfl,b3,f0,aw⟩;obtain⟨y,A,z,rfl⟩:=b3.form;have dv:=P.trans (aw.mono P.size);have b8:=(dj W dv).2.2;have fy:=dv.size;exact⟨y,A,z,ae,by rw[dp];rfl,⟨X b8 0 _ rfl,X b8 1 _ rfl,X b8 2 _ rfl,X b8 3 _ rfl⟩,Z,fy,aw.size,V ⟨b3,f0.q,aw⟩⟩)
  have ha:=X bn 0 _ rfl;have hb:=X bn 1 _ rfl;have hc:=X bn 2 _ rfl;have he:=X bn 3 _ rfl;have h0:(d:Int)<=(f.length:Int)+1:=Z;have h1:(d:Int)<=(b7:Int):=Z;have iq:¬b7=d:=Z;have h5:u<ac.heap.size:=Z;have io:¬ac.heap.size=u.heap.size:=Z;have df:¬u.heap.size=ac.heap.size:=Z;have iw:=V fh;have cc:=V b0;have ii:=V ch;have ig:=V bl;have ie:=V ce;have em:=V b1;have gx:=V dp;clear fh ed bn b0 dj ce bl ch dn b9 b1 dp cp du cq cr bj ck dx c2 cu ek c9;go_cut [10,11,12] (λg5 g7 g8 h=>∃(bf:Nat) (y:So) (A z:Nat) (ae:List Rn),g5=.pointer (some bf)/\g7=.int .i64 (o.length:Nat)/\g8=.bool ao/\U (HZ ac bf x y A z ae h/\Bb C (a2+(d:Int)) (S.Ag K o).1 ae))
  case first=>
   go_region_held3 (λs=>s.cell? u=some (.int .u8 ay)/\s.cell? (u 1)=some (.int .i64 az)/\s.cell? (u 2)=some (.bool bb)/\s.cell? (u 3)=some (.int .i64 bc))
    ((refine⟨?_,?_,?_,?_⟩<;>(first|with_reducible assumption|go_keep)))
    ((go_at_call 142;refine(d5.q _ (by repeat (first|exact Sr|refine Below.drew ?_|refine Below.alloc ?_ Y _))).mono ?_;rintro e W⟨y,A,z,ae,rfl,⟨i8,i9,ja,jb⟩,i3,i4,i5,a8⟩;obtain⟨h9,ih⟩:=Na a8.q.2.2;have ip:¬W.heap.size=u.heap.size:=Z))
   all_goals (go_wp2_with fail;go_meet)
   ·exact⟨_,y,A,z,ae,rfl,rfl,rfl,V ⟨zmc (by repeat (first|exact Sr|refine Below.drew ?_|refine Below.alloc ?_ Y _)) a8.q.1 a8.q.2.2,a8.q.2.1⟩⟩
   exact⟨_,y,A,z,ae,rfl,rfl,rfl,V ⟨zba (by repeat (first|exact Sr|refine Below.drew ?_|refine Below.alloc ?_ Y _)) Y (by exact Ak _ _) a8.q.1 a8.q.2.2,a8.q.2.1⟩⟩
  case rest=>
  obtain⟨bf,y,A,z,ae,rfl,rfl,rfl,de⟩:=hcut;clear ha hb hc he d5 ea;have gf:=F.q.num;subst gf;have ai:=de.q.1;have iu:bf<wc:=(Qq.1 ai.blk).1;have bz:Below wr wr wc:=cc.q.trans (ai.below.mono cc.q.size);have gq:=F.q.size;have iy:wr<=wc.heap.size:=bz.size;have dh:=(bz.block ((w:Nat)+2) Z).trans F.q.q;have ft:wc.cell? (((w:Nat)+2) 6)=some (.slice ak l.length al):=X dh 6 _ rfl;have gy:=X ai.blk 0 _ rfl;have gz:wc.cell? (bf 1)=some (.int .i64 7):=X ai.blk 1 _ rfl;have g0:=X ai.blk 2 _ rfl;have g1:=X ai.blk 3 _ rfl;have g2:=X ai.blk 4 _ rfl;have g3:wc.cell? (bf 5)=some (.int .i64 x):=X ai.blk 5 _ rfl;have g4:wc.cell? (bf 6)=some (.slice y A z):=X ai.blk 6 _ rfl;obtain⟨i0,eu,ev,ew,ex⟩:=info_parts Tryz.EW;have ic:l.length+1<=1000001:=by have:=F.q.count;omega
  have e9:U (∀bd,(wc.alloc bd).ownsRow ((w:Nat)+3) 118 7 (.slice ak l.length al) l.length (Gm l)):=V (λbd=>(F.q.row.own.kept (Below.Ll bz) (by
   cases a4:(Value.slice ak l.length al).ownBlock with
   |none=>exact .inl rfl
   |some ao=>exact .inr Y)).alloc bd)
  have e3:U (∀R v,([O,(7:Int),O,(),(),.int .i64 x,.slice y A z]:List Value)[R]?=some v->(wc.alloc (.cells #[O,(7:Int),O,(),(),.int .i64 x,.slice y A z] 118)).cell? ((wc:Addr).add R)=some v):=V (λR v da=>World.news_of_block (Ak _ _) R v (by exact da));have e7:U (∀v∈([O,(7:Int),O,(),(),.int .i64 x,.slice y A z]:List Value),v.oneCell'=true):=V (by
   intro v fj;simp at fj;rcases fj with rfl|rfl|rfl|rfl|rfl|rfl|rfl<;>rfl)
  have fi:U (∀bd q D aj,aj.ownsRow ((w:Nat)+3) 118 7 (.slice (some ⟨q,0,none⟩) (l.length+1) D) (l.length+1) (Gm l++[.int .i64 0,.int .i64 7,.int .i64 0,.string ⟨#[]⟩,.string ⟨#[]⟩,.int .i64 x,.slice y A z])->(wc.alloc bd).grownBy aj (Value.slice ak l.length al).ownBlock->((Value.slice ak l.length al).ownBlock=some q\/wc.heap.size<=q)->aj.heap[(w:Nat)+2]?=some (.cells #[O,(6:Int),j.Al,(),(S.B (Ec 6 [] H)),O,.slice ak l.length al] 118 (0,0))/\∃E:List (Rn×Value),E.length=l.length+1/\Nu C K j w ab (g::f) a2 d (some ⟨q,0,none⟩) D H H o E bq aa (aj.setCell (((w:Nat)+2) 6) (.slice (some ⟨q,0,none⟩) (l.length+1) D))):=V (λbd q D aj gi es ca=>by
   have c7:Below wc wc (wc.alloc bd):=Sr.alloc (Qc _) _;have cx:=F.q.row.step (t:=.nd 7 0 [] [] x ae) (kv:=.slice y A z) gq bz (ai.rep.move (λdr fb=>⟨Qj cc.q.size fb.1,fb.2⟩) (λ_ _=>rfl)) gi c7 es ca;have aq:aj.heap[(w:Nat)+2]?=_:=(es.block ((w:Nat)+2) (by have:=c7.size;omega) (λe=>by have:=F.q.row.own.lt _ e.symm;omega)).trans ((c7.block ((w:Nat)+2) Z).trans dh);refine⟨aq,l++[(.nd 7 0 [] [] x ae,.slice y A z)],Y,F.q.at_,?_,by simp[F.q.same],by have:=F.q.count;simp;omega,?_,?_,?_,?_⟩
   ·rw[Qv];refine F.q.mat.append ?_;simp only[Qs,List.map_nil,Bb,and_true,Ox,Fx];refine⟨trivial,trivial,trivial,by first|trivial|rfl,gx.q,?_⟩
    rw[if_neg Z];exact de.q.2
   ·exact cx.JY ((w:Nat)+2) 6 Z _
   ·rw[Qa];exact Aj (cs:=[.int .i64 0,.int .i64 6,.int .i64 j.Al,.string ⟨#[]⟩,.string (S.B (Ec 6 [] H)),.int .i64 0,.slice ak l.length al]) aq 6 _
   ·exact(F.q.below.trans (cx.below.mono Z)).setCell (p:=⟨(w:Nat)+2,6,none⟩) (Qc _) _
   have r:=cx.below.size;have M:(aj.setCell (((w:Nat)+2) 6) (.slice (some ⟨q,0,none⟩) (l.length+1) D)).heap.size=aj.heap.size:=by simp[World.setCell]
   omega)
  have i2:(w:Nat)+3<=wc.heap.size:=Z;have ir:(w:Nat)+2<wc.heap.size:=Z;obtain⟨a,d1⟩:=Qyy (d+o.length);have h2:IntKind.i64.wrap ((d:Int)+(o.length:Int))=(a:Int):=by rw[Sqe];omega
  have h3:(d:Int)+(o.length:Int)=(a:Int):=Z;have h4:a<=f.length+1:=Z;have a7:=V d1;have d3:=V d2;clear d1 ai bz dh d2 cc de;go_wp2_with (at_builtin;refine wpList_append_lies _ I _ _ 80 I ((w:Nat)+3) 118 i0 (.agg #[O,O,O,(),(),O,Sx]) 7 88 underlying80 eu ev ew ex I Z (.slice ak l.length al) l.length (Gm l) I (e9.q _) wc 1 1 [.int .i64 0,.int .i64 7,.int .i64 0,.string ⟨#[]⟩,.string ⟨#[]⟩,.int .i64 x,.slice y A z] I I e3.q e7.q Z (by unfold maxLen;omega) Z (by simp;omega) ((wc:Nat)+1) Y ?_)
  intro q D aj e8 er ca gd;obtain⟨aq,E,fc,cw⟩:=fi.q _ q D aj e8 er (by rcases ca with a4|a4;exact .inl a4;exact .inr Z)
  have dt:=X aq 6 _ rfl;have fv:=Av aq;obtain⟨m,cy⟩:=Qzz (aj.setCell (((w:Nat)+2) 6) (.slice (some ⟨q,0,none⟩) (l.length+1) D));rw[<-cy]at cw;have bi:=V cw;have eb:=V cy;have iv:=V fc;clear e8 er ca gd cw cy fc aq fi e3 e7 e9;go_upto_region 6 with fail
  rw[<-eb.q];clear dt fv ft gy gz g0 g1 g2 g3 g4 eb eu ev ew ex;have c0:Below w w m:=c5.q.trans (bi.q.below.mono Z);have f7:b<m:=Qh cd c0.size;have ix:(w:Nat)+3<=m.heap.size:=bi.q.size;have a9:U (Fz m b a0 (g::f)):=V (cj.q.below bi.q.below Z);have h7:=V c0;clear c0;go_upto_region 8 with fail
  go_loop [13] (λdq=>∃i:Nat,a+i<=f.length+1/\dq=.int .i64 ((a:Int)+(i:Int))/\U (∀R,R<i->(((Ah (g::f)).drop a)[R]?.map S.Ar)=some true)) (λdq=>f.length+1-(intOf dq).toNat)
  case atStart=>exact⟨0,Z,by first|rfl|simp,V (by intro R da;omega)⟩
  case round=>
  obtain⟨i,et,rfl,cz⟩:=hrel;have hz:(0:Int)<=(a:Int)+(i:Int):=Z;have iz:((a:Int)+(i:Int)).toNat=a+i:=Z;by_cases ap:(((Ah (g::f)).drop a)[i]?.map S.Ar)=some true
  ·rw[Qn]at ap;obtain⟨p,k⟩:∃p,(g::f)[a+i]?=some p:=by
    cases k:(g::f)[a+i]? with
    |none=>
     have:(Ah (g::f))[a+i]?=none:=by
      rw[List.getElem?_eq_none_iff]at k ⊢;rw[F4];exact k
     rw[this]at ap;simp at ap
    |some p=>exact⟨p,rfl⟩
   have ax:=(Qb.1 k).1;simp only[Qd]at ax;rw[Jh _ _ p k,Sq]at ap;have bk:=Qy ap;have am:=(a9.q.1 (a+i) p k).1;have af:=a9.q.size (a+i) p k;have a6:=Lb p.1 m af;rw[bk]at a6;have br:U (Calls prog 67 #[.string p.1] m λe s=>e=.returned true/\m=s):=V (a6.mono (λe s ⟨r,M⟩=>⟨r,M.symm⟩));have f6:U (∀R,R<i+1->(((Ah (g::f)).drop a)[R]?.map S.Ar)=some true):=V (by
    intro R da;by_cases e:R=i
    ·subst e;rw[Qn,Jh _ _ p k,Sq,bk]
    exact cz.q R Z)
   obtain⟨b6,cn⟩:=p;dsimp only at am af br;have cv:(a:Int)+(i:Int)<(f.length:Int)+1:=Z;clear k ap bk a6;go_wp2_with (fail);apply br.m;rintro e s⟨rfl,rfl⟩;go_wp2;exact⟨⟨i+1,Z,by go_num,f6⟩,by simp[intOf];omega⟩
  have ej:U (S.Az ((Ah (g::f)).drop a)=i):=V (S.V3 _ i cz.q ap);have f8:=V ap;clear ap cz;go_upto_region 8 with fail
  go_cut [61] (λg9 h=>g9=.bool false/\m=h)
  case first=>
   by_cases ax:a+i<f.length+1
   ·have ci:a+i<(g::f).length:=(by simpa using ax);obtain⟨p,k⟩:∃p,(g::f)[a+i]?=some p:=⟨(g::f)[a+i],Qg ci⟩;have am:=(a9.q.1 (a+i) p k).1;have af:=a9.q.size (a+i) p k;have a6:=Lb p.1 m af;have bk:S.Ar p.1.data.toList=false:=by
     have:=f8.q;rw[Qn,Jh _ _ p k,Sq]at this;cases a4:S.Ar p.1.data.toList with
     |false=>rfl
     |true=>rw[a4]at this;exact absurd rfl this
    rw[bk]at a6;have br:U (Calls prog 67 #[.string p.1] m λe s=>e=.returned false/\m=s):=V (a6.mono (λe s ⟨r,M⟩=>⟨r,M.symm⟩));obtain⟨b6,cn⟩:=p;dsimp only at am af br;have cv:(a:Int)+(i:Int)<(f.length:Int)+1:=Z;clear k bk a6;go_wp2_with (fail);apply br.m;rintro e s⟨rfl,rfl⟩;go_wp2;go_meet;exact⟨rfl,rfl⟩
   have cv:¬(a:Int)+(i:Int)<(f.length:Int)+1:=Z;go_wp2;go_meet;exact⟨rfl,rfl⟩
  case rest=>
  obtain⟨rfl,rfl⟩:=hcut;obtain⟨L,ep⟩:=Qyy ((S.Cj j.kind ((Ah (g::f)).drop (a+i))).ok);obtain⟨ct,en⟩:=Qyy (decide ((a:Int)+(i:Int)<(f.length:Int)+1));have eo:=V en;have b2:=V ep;clear ep;have gu:U (m.heap[w.heap.size]?=some (.cells #[.int .u8 (j.kind.toNat:Int),j.Al,j.empty,j.Ao] 150 (0,0))):=V ((bi.q.below.block w Z).trans gt.q);go_upto_if 68 with fail
  go_cut [14] (λds h=>ds=.bool L/\U (Below m m h))
  case first=>
   cases ct
   ·have G:U (L=false):=V (by
     have r:=of_decide_eq_false eo.q;rw[<-b2.q,Qw (by rw[F4,Qd];omega)];rfl)
    go_wp2;go_meet;exact⟨by rw[G.q],V Sr⟩
   have ax:a+i<f.length+1:=by have:=of_decide_eq_true eo.q;omega
   have ci:a+i<(g::f).length:=by simpa using ax
   obtain⟨p,k⟩:∃p,(g::f)[a+i]?=some p:=⟨(g::f)[a+i],Qg ci⟩;have am:=(a9.q.1 (a+i) p k).1;have af:=a9.q.size (a+i) p k;have el:(Ah (g::f)).drop (a+i)=p.1.data.toList::(Ah (g::f)).drop (a+i+1):=by
    have r:=Jh _ _ p k;obtain⟨M,a5⟩:=Qb.1 r;rw[Qm M,a5]
   obtain⟨a1,dk⟩:=Qyy (S.Ea p.1.data.toList);obtain⟨b4,cg⟩:=Qyy ((S.Ae p.1.data.toList).ok);have cf:U (L=if a1=true then false else (b4&&decide ((S.Ae p.1.data.toList).kind=j.kind))):=V (by
    rw[<-b2.q,el];simp only[S.Cj];rw[dk];split
    ·rfl
    rw[<-cg])
   have d0:U (Calls prog 93 #[.string p.1] m λe s=>∃(d n:Int) (b:Bool) (cm:Int),e=.returned (.tuple #[.agg #[.int .u8 d,n,b,cm],b4])/\U (RV p.1.data.toList d n b cm)/\Below m m s):=V ((Xj p.1 m af).mono (by
    rintro e s⟨d,n,b,cm,rfl,M,a5⟩;exact⟨d,n,b,cm,by rw[cg],M,a5⟩))
   have d8:U (∀h,Calls prog 89 #[.string p.1] h λe s=>e=.returned a1/\h=s):=V (λh=>by
    have:=Ze p.1 h af;rw[dk]at this;exact this.mono (λe s ⟨r,M⟩=>⟨r,M.symm⟩))
   have ez:=V cg;obtain⟨b6,cn⟩:=p;dsimp only at am af d0 d8 cf ez;have cv:(a:Int)+(i:Int)<(f.length:Int)+1:=Z;clear k el dk cg ax ci;go_wp2_with (fail);apply d0.m;rintro e bp⟨cl,fr,fp,fq,rfl,dy,c3⟩;obtain⟨an,bw⟩:=Qzz (bp.alloc (.cells #[.int .u8 cl,fr,fp,fq] 150));have go:an.heap.size=(bp:Nat)+1:=by rw[bw];simp
   have ee:Below bp bp an:=by rw[bw];exact Sr.alloc (Qc _) _
   have fl:an.heap[bp.heap.size]?=some (.cells #[.int .u8 cl,fr,fp,fq] 150 (0,0)):=by rw[bw];exact Ak _ _
   have bx:Below m m an:=c3.trans (ee.mono c3.size);have ia:an.cell? (b (a0+(a+i)*2))=some (.string b6):=(bx.cell (p:=⟨b,a0+(a+i)*2,none⟩) f7).trans am;have i6:=X fl 0 _ rfl;have i7:=X ((bx.block w Z).trans gu.q) 0 _ rfl;have ik:bp<an.heap.size:=Z;have im:w<an.heap.size:=by have:=bx.size;omega
   have f5:=V bw;have c1:=V bx;clear bw go ee fl bx c3 am;go_upto_region 13 with fail
   rw[<-f5.q];go_wp2_with (fail);refine(d8.q _).mono ?_;rintro e s⟨rfl,rfl⟩;cases b4
   ·have G:U (L=false):=V (by rw[cf.q];cases a1<;>rfl);go_wp2;go_meet;exact⟨by rw[G.q],c1⟩
   obtain⟨kq,dc⟩:=Qyy (decide ((S.Ae b6).kind=j.kind));have ey:cl=((S.Ae b6).kind.toNat:Int):=(dy.q ez.q).1;have cp:((cl:Int) == (j.kind.toNat:Int))=kq:=by
    rw[<-dc,SC,Sqb,Sd,ey,<-Qk];omega
   have eq:U (L=(kq&&!a1)):=V (by rw[cf.q,<-dc];cases a1<;>simp);clear dc ey cf dy;cases kq
   ·have G:U (L=false):=V (by rw[eq.q];rfl);go_wp2;go_meet;exact⟨by rw[G.q],c1⟩
   have G:U (L = !a1):=V (by rw[eq.q];rfl);go_wp2;go_meet;exact⟨by rw[G.q],c1⟩
  case rest=>
  obtain⟨rfl,ef⟩:=hcut;have bh:=V (bi.q.after ef.q);obtain⟨T,e0⟩:∃T:Bool,(ao||(L&&decide (0<i)))=T:=⟨_,rfl⟩;have bm:=V e0;clear e0 en ef a9;go_upto_region 15 with fail
  go_cut [104] (λg6 h=>g6=.bool T/\wc=h)
  case first=>
   cases ao
   ·cases L
    ·have G:U (T=false):=V (by rw[<-bm.q];rfl);go_wp2;go_meet;exact⟨by rw[G.q],rfl⟩
    by_cases r:0<i
    ·have fw:(a:Int)<(a:Int)+(i:Int):=Z;have fx:(0:Int)<(i:Int):=Z;have G:U (T=true):=V (by rw[<-bm.q,Sl r];rfl);go_wp2;go_meet;exact⟨by rw[G.q],rfl⟩
    have fw:¬(a:Int)<(a:Int)+(i:Int):=Z;have fx:¬(0:Int)<(i:Int):=Z;have G:U (T=false):=V (by rw[<-bm.q,Si r];rfl);go_wp2;go_meet;exact⟨by rw[G.q],rfl⟩
   have G:U (T=true):=V (by rw[<-bm.q];rfl);go_wp2;go_meet;exact⟨by rw[G.q],rfl⟩
  case rest=>
  obtain⟨rfl,rfl⟩:=hcut;go_upto_if 104 with fail
  go_cut [14] (λds h=>ds=.bool L/\U (Nu C K j w ab (g::f) a2 d (some ⟨q,0,none⟩) D H (H||T) o E bq aa h))
  case first=>
   cases T
   ·go_wp2;go_meet;exact⟨rfl,V (by rw[Bool.or_false];exact bh.q)⟩
   have fu:=X bh.q.q 4 _ rfl;have hw:=Av bh.q.q;have il:(w:Nat)+2<wc.heap.size:=by have:=bh.q.size;omega
   go_wp2;go_meet;exact⟨rfl,V (by rw[Bool.or_true];exact bh.q.Ai)⟩
  case rest=>
  obtain⟨rfl,ah⟩:=hcut;have gb:U (L=true->a+i<f.length+1):=V (λa4=>by
   have r:=S.Zq _ _ (b2.q.trans a4);rw[Qf,F4,Qd]at r;omega)
  clear bh bi;cases L
  ·have dw:=V (ah.q.at_.last d6.q (gap:=i) (by rw[a7.q];exact ej.q) (by rw[a7.q];exact b2.q));have dd:U ((H||T)=(H||(S.Ag K o).2)):=V (by rw[<-bm.q,em.q];simp);obtain⟨bo,dm⟩:=Qyy (S.B (Ec 6 [] (H||T)));have c6:=ah.q.below;have gp:=ah.q.size;have ar:=ah.q.q;rw[dm]at ar;have Q:=(c6.block ((w:Nat)+1) Z).trans gw.q;have hs:=X ar 0 _ rfl;have cp:=X ar 1 _ rfl;have du:=X ar 2 _ rfl;have cq:=X ar 3 _ rfl;have cr:=X ar 4 _ rfl;have ht:=X ar 5 _ rfl;have hu:=X ar 6 _ rfl;have hn:=X Q 0 _ rfl;have ho:=X Q 1 _ rfl;have hp:=X Q 2 _ rfl;have hq:=X Q 3 _ rfl;have fu:=X Q 4 _ rfl;have hr:=X Q 5 _ rfl;have dt:=X Q 6 _ rfl;have hv:=Av Q;have ch:(w:Nat)+1<wc.heap.size:=Z;have ij:(w:Nat)+2<wc.heap.size:=Z;have eh:Below w w wc:=c5.q.trans (c6.mono Z);have b3:Bv wc (λaa=>(w:Nat)+3<=aa/\aa<wc) (.slice (some ⟨q,0,none⟩) E.length D) (E.map Prod.fst):=EG ah.q.row.own (λao b1=>ah.q.row.own.lt ao b1) (λi p et=>(ah.q.row.Ab i p et).move (λaa P=>⟨P.1,P.2.1⟩) (λ_ _=>rfl));have ba:=V (I8 Q (.int .i64 0) (.int .i64 6) (.int .i64 j.Al) (.string ⟨#[]⟩) (.string bo) (.int .i64 0) (.slice (some ⟨q,0,none⟩) E.length D));have f9:=V (Iq (N:=(w:Nat)+1) eh Z (.int .i64 0) (.int .i64 6) (.int .i64 j.Al) (.string ⟨#[]⟩) (.string bo) (.int .i64 0) (.slice (some ⟨q,0,none⟩) E.length D));have gk:=V (Ke b3 (N:=(w:Nat)+1) (λaa P e=>Z) (.int .i64 0) (.int .i64 6) (.int .i64 j.Al) (.string ⟨#[]⟩) (.string bo) (.int .i64 0) (.slice (some ⟨q,0,none⟩) E.length D));have ge:=V ah.q.mat;have gr:=V dm;clear c6 gp ar Q eh b3 dm ah;go_wp2;refine Sqk (v:=.tuple #[.agg #[O,(6:Int),j.Al,(),bo,O,.slice (some ⟨q,0,none⟩) E.length D],a]) (by have hf:=X ba.q 0 _ rfl;have hg:=X ba.q 1 _ rfl;have hh:=X ba.q 2 _ rfl;have hi:=X ba.q 3 _ rfl;have hj:=X ba.q 4 _ rfl;have hk:=X ba.q 5 _ rfl;have hl:=X ba.q 6 _ rfl;simp[results,results98,go_sem,hf,hg,hh,hi,hj,hk,hl]) rfl ?_;refine⟨.slice (some ⟨q,0,none⟩) E.length D,E.map Prod.fst,?_,gk.q.move (λaa P=>⟨by have:=P.1;omega,by rw[J9];exact P.2⟩) (λ_ _=>rfl),V (by rw[dw.q];exact ge.q),f9.q⟩;rw[dw.q,<-gr.q,dd.q,a7.q];rfl
  have dd:U ((H||T)=(H||(S.Ag K o).2||decide (0<i))):=V (by rw[<-bm.q,em.q];simp[Bool.or_assoc]);have ax:=gb.q rfl;have gg:U (∃x,EO C K j w ab (g::f) a2 (a+i) E.length (some ⟨q,0,none⟩) D (H||T) E (bq++[Ox K d o]) x wc):=V (by
   have:=ah.q.next d6.q (gap:=i) (by rw[a7.q];exact ej.q) (by rw[a7.q];exact b2.q) d3.q.1 dd.q;rw[a7.q]at this;exact this)
  clear ah;go_wp2;go_roundw
  case rel=>
   obtain⟨cn,fz⟩:=gg.q;exact⟨a+i,E.length,some ⟨q,0,none⟩,D,H||T,ax,by go_num,V ⟨E,_,cn,fz⟩⟩
  case measure=>simp[intOf];have:=d3.q;have:=a7.q;omega
