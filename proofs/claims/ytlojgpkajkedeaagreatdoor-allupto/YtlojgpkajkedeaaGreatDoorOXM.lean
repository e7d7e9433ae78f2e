import Derived.Test.YtlojgpkajkedeaaGreatDoorOPD
set_option maxHeartbeats 0
set_option maxRecDepth 100000
namespace Go.Proofs.YtlojgpkajkedeaaGreatDoor
open Go.RowKit Go.Proofs.Tryz
theorem X9 (a:List S.Ac):120*a.length<=Bo a:=by
 induction a with
 |nil=>simp[Bo]
 |cons b f d=>have:=N7 b;simp only[Bo,Qd];omega
theorem U5 {w:Sw}{A:Nat->Prop}{l:So}{m D:Nat}{j:List S.Ac}(C:Co w A (.slice l m D) j):m=j.length/\∀(i:Nat) (a:S.Ac),j[i]?=some a->∃(f d:Nat) (o:So) (q p:Nat) (h:Value),l=some ⟨f,d,none⟩/\A f/\Co w A h a.Ab /\
  w.cell? (f (d+i*8))=some (.int .i64 a.kind)/\w.cell? (f (d+i*8+1))=some (.int .i64 a.line)/\w.cell? (f (d+i*8+2))=some (.slice o q p)/\w.cell? (f (d+i*8+3))=some (.int .i64 a.n)/\w.cell? (f (d+i*8+4))=some (.string (S.B a.info))/\w.cell? (f (d+i*8+5))=some (.string (S.B a.text))/\w.cell? (f (d+i*8+6))=some (.bool a.Ai)/\w.cell? (f (d+i*8+7))=some h:=by
 obtain⟨E,k⟩:=Qzz (Value.slice l m D);rw[<-k]at C;cases C with
 |nil=>injection k with h1 h2 h3;exact⟨by rw[<-h2];rfl,λi a g=>by simp at g⟩
 |some b d K j h F L G H=>
  injection k with h1 h2 h3
  refine⟨h2.symm,λi a g=>?_⟩;obtain⟨r,s,⟨o,q,p,t⟩,u,v,x,y,z⟩:=G i a g;rw[Nat.mul_comm 8 i]at r s t u v x y z;exact⟨b,d,o,q,p,h i,h1.symm,F,H i a g,r,s,t,u,v,x,y,z⟩
def Yk (a:List S.Ac):Prop:=∀(B b:Nat) (f:Nat->Prop) (l:Sw) (g:So) (j h:Nat) (k:Bool) (d:List UInt8) (w:Sw),(∀m,f m->m<B)->Co l f (.slice g j h) a->Below B l w->Cv B w->Kn B b d w->B<=w.heap.size->C9 a->d.length+Bo a<=1000000000 ->
 Calls prog 71 #[.pointer (some b),.slice g j h,k] w λe o=>e=.returned (.tuple #[])/\Wrote 124 B b (d++Cy Bg k a) w o
theorem Yx (a b:Sb)(d:a.size+b.size<=9223372036854775807):Op.stringOp .add a b=pure (.string (a++b)):=by
 unfold Op.stringOp;dsimp only;rw[if_neg];rw[show IntKind.i64.max=9223372036854775807 from by decide];omega
theorem zle (B b:Nat)(A:Nat->Prop)(N:Sw)(l:List UInt8)(w:Sw)(a5:∀da,A da->da<B)(cv:Below B N w)(cw:Kn B b l w)(ct:B<=w)(cz:Cv B w)(k bz:Int)(bw:So)(b0 bx:Nat)(n:Int)(info text:List UInt8)(Ai:Bool)(a9:So)(bb ba:Nat)(Ab:List S.Ac)(c7:Co N A (.slice a9 bb ba) Ab)(cu:∀(i:Nat) (a:S.Ac),Ab[i]?=some a->Yk a.Ab)(c0:C9 Ab)(b3 : -9223372036854775808<=n)(b4:n<=9223372036854775807)(ds:l.length+120+Bo Ab<=1000000000):Calls prog 150 #[.pointer (some b),.agg #[k,bz,.slice bw b0 bx,n,(S.B info),(S.B text),Ai,.slice a9 bb ba]] w λe cg=>e=.returned (.tuple #[])/\Wrote 124 B b (l++([60]++I4 n++J7 n++[62,10]++Es Bg (!Ai) Ab++([60,47]++I4 n++[62,10]))) w cg:=by
 obtain⟨r,b5⟩:=Qzz (w.alloc (.cells #[k,bz,.slice bw b0 bx,n,(S.B info),(S.B text),Ai,.slice a9 bb ba] 110));have a4:Wrote 124 B b l w r:=by rw[b5];exact(Wrote.refl cw).Lm ct _
 have an:r.heap[w.heap.size]?=some (.cells #[k,bz,.slice bw b0 bx,n,(S.B info),(S.B text),Ai,.slice a9 bb ba] 110 (0,0)):=by rw[b5];exact Ak _ _
 have dm:U (∀j d,Wrote 124 B b j w d->Wrote 124 B b j r d->d.heap[w.heap.size]?=some (.cells #[k,bz,.slice bw b0 bx,n,(S.B info),(S.B text),Ai,.slice a9 bb ba] 110 (0,0))):=V (λj d _ g=>g.blk a4.1 an J J);have F:B<=r:=Qj ct a4.2.1.size;have cy:Cv B r:=cz.below a4.2.1;have ce:=V (Wrote.refl a4.1);have b7:U (∀j d,Wrote 124 B b j r d->Wrote 124 B b j w d):=V (λj d g=>a4.trans g);have R:U (∀j d,Wrote 124 B b j r d->d.heap[w.heap.size]?=some (.cells #[k,bz,.slice bw b0 bx,n,(S.B info),(S.B text),Ai,.slice a9 bb ba] 110 (0,0))):=V (λj d g=>g.blk a4.1 an J J);have cc:=V b5;have b6:=V cy;have d0:=X an 3 _ rfl;have d1:=X an 4 _ rfl;have d2:=X an 5 _ rfl;have d3:=X an 6 _ rfl;have d4:=X an 7 _ rfl;clear cw an a4 b5 dm cy cz;have a6:U (∀j d,Wrote 124 B b j r d->Below B N d):=V (λj d g=>cv.trans (b7.q j d g).2.1);have dp:=JE n b3 b4;have c1:=Lib.itoa_length_le n b3 b4;obtain⟨di,c8⟩:=U5 c7;have cf:=V c8;have b9:=V cu;have a7:=V c0;have du:=X9 Ab;obtain⟨b1,c5⟩:∃b1:Sb,b1=S.B (I4 n):=⟨_,rfl⟩;have dy:b1.size=2:=by rw[c5,S.Bc];exact EB n
 obtain⟨u,c3⟩:=Qzz (l++([60]++I4 n++J7 n++[62,10]));have dt:u.length<=l.length+45:=by rw[c3];simp only[Qa,Qd,Qi,EB];omega
 have a8:=V c3;have c6:=V c5;clear c7 c8 cu c0 cv;subst di;obtain⟨ck,ca⟩:=Qzz ((l++([60]++I4 n++J7 n++[62,10]++Es Bg (!Ai) Ab++([60,47]++I4 n++[62,10]))));rw[<-ca];have cb:=V ca;clear ca;go_enter func150,ntmps150;by_cases dx:n<0
 ·have M:I4 n=[117,108]:=by unfold I4;rw[if_neg Z]
  have bf:=V M;have al:J7 n=[]:=by unfold J7;rw[if_neg Z]
  have ap:U (u=(l++[60,117,108])++[62,10]):=V (by rw[a8.q,M,al];simp);have dj:U (Value.string ⟨#[117,108]⟩=Value.string b1):=V (by rw[c6.q,M];rfl);have dh:¬(0:Int)<=n:=Z;clear M al;go_wp2_with fail
  rw[<-cc.q];refine(ce.q.w F _ (by simp only[Ol,Dj,Qba,Qd,Qi];omega)).mono ?_;rintro e d⟨rfl,h⟩;have ci:=X (R.q _ _ h) 3 _ rfl;have v:U (Wrote 124 B b (l++[60,117,108]) r d):=V (by simpa [Ph]using h);clear h;go_wp2_with fail
  refine(v.q.w F ⟨#[62,10]⟩ (by rw[Dj];simp only[Qba,Qa,Qd,Qi];omega)).mono ?_;rintro e t⟨rfl,s⟩;have K:=V s;clear s;have am:U (Wrote 124 B b u r t):=V (by rw[ap.q];exact K.q);clear ap K;have db:=X (R.q _ _ am.q) 7 _ rfl;go_wp2;go_loopw [6,40] (λ_ i wr=>∃f:Nat,f<=Ab.length/\i=.int .i64 f/\U (Wrote 124 B b (u++Es Bg (!Ai) (Ab.take f)) r wr)) (λ_ i _=>Ab.length-(intOf i).toNat)
  case atStart=>exact⟨0,Qt _,rfl,by simpa [Es]using am⟩
  case round=>
   obtain⟨f,c2,rfl,z⟩:=hrel;have bp:=Vv (!Ai) (Ab.take f) (Uy Ab a7.q f);have bq:=Ls Ab f;by_cases bs:f<Ab.length
   ·obtain⟨a,D⟩:∃a,Ab[f]?=some a:=⟨Ab[f],Qg bs⟩;obtain⟨G,W,au,aw,av,c9,bo,bl,T,ac,ae,af,ag,ah,ai,aj,ak⟩:=cf.q f a D;obtain⟨x,E,y,rfl⟩:=T.form;have br:=Ls Ab (f+1);rw[Rw Ab f a D,N7]at br;have C:=Rm Ab a7.q f a D;have ao:=a6.q _ _ z.q;have bm:=a5 G bl;have o:∀H,wr.cell? (G (W+f*8+H))=N.cell? (G (W+f*8+H)):=λH=>ao.cell (p:=⟨G,W+f*8+H,none⟩) bm;have bc:=(o 0).trans ac;have cl:=(o 1).trans ae;have cm:=(o 2).trans af;have cn:=(o 3).trans ag;have co:=(o 4).trans ah;have cp:=(o 5).trans ai;have cq:=(o 6).trans aj;have cr:=(o 7).trans ak;rw[SL]at bc;have bd:B<=wr:=Qj F z.q.2.1.size;obtain⟨m,Q⟩:=Qzz (Obj.cells #[.int .i64 a.kind,.int .i64 a.line,.slice au aw av,.int .i64 a.n,(S.B a.info),(S.B a.text),.bool a.Ai,.slice x E y] 110);have q:=z.q.Lm bd m;have aq:(wr.alloc m).heap[wr.heap.size]?=some (.cells #[.int .i64 a.kind,.int .i64 a.line,.slice au aw av,.int .i64 a.n,(S.B a.info),(S.B a.text),.bool a.Ai,.slice x E y] 110 (0,0)):=(by rw[Q];exact Ak _ _);have ar:=R.q _ _ q;have P:B<=(wr.alloc m).heap.size:=(by simp;omega);have bv:U (∀j d,Wrote 124 B b j (wr.alloc m) d->d.cell? (wr 7)=some (.slice x E y)/\d.cell? (w 6)=some (.bool Ai)):=V (λj d g=>⟨X (g.blk q.1 (T2:=110) aq J J) 7 _ rfl,X (g.blk q.1 (T2:=110) ar J J) 6 _ rfl⟩);have bt:=V (Wrote.refl q.1);have bi:U (∀j d,j.length+Bo a.Ab<=1000000000->Wrote 124 B b j (wr.alloc m) d->Calls prog 71 #[.pointer (some b),.slice x E y,.bool (!Ai)] d λe t=>e=.returned (.tuple #[])/\Wrote 124 B b (j++Cy Bg (!Ai) a.Ab) (wr.alloc m) t):=V (λj d bu g=>by
     have bh:Below B N d:=(a6.q _ _ q).trans g.2.1;have bk:C9 a.Ab:=by
      obtain⟨a3,ax,ay,az,a0,a1,a2⟩:=a;simp only[Gl]at C;exact C.2.2.2.2
     exact(b9.q f a D B b A N x E y (!Ai) j d a5 T bh (b6.q.below (q.trans g).2.1) g.1 (Qj P g.2.1.size) bk bu).mono (λe t ⟨h,s⟩=>⟨h,g.trans s⟩))
    have bj:U (∀d,Wrote 124 B b ((((u++Es Bg (!Ai) (Ab.take f))++[60,108,105,62,10])++Cy Bg (!Ai) a.Ab)++[60,47,108,105,62,10]) (wr.alloc m) d->Wrote 124 B b (u++Es Bg (!Ai) (Ab.take (f+1))) r d):=V (λd g=>by
     have:=q.trans g;rw[FI (!Ai) Ab f a D];obtain⟨a3,ax,ay,az,a0,a1,a2⟩:=a;simp only[Oe];simpa [S.Ac.Ab,List.append_assoc]using this)
    have cx:=O1 (!Ai) a.Ab (by
      obtain⟨a3,ax,ay,az,a0,a1,a2⟩:=a;simp only[Gl]at C;exact C.2.2.2.2)
    have bg:=V Q;clear ac ae af ag ah ai aj ak o aq ar q ao T C Q;subst bo;go_wp2_with (fail);rw[<-bg.q];refine(bt.q.w P ⟨#[60,108,105,62,10]⟩ (by rw[Dj];simp only[Qba,Qa,Qd,Qi];omega)).mono ?_;rintro e d⟨rfl,h⟩;obtain⟨dd,dc⟩:=bv.q _ _ h;have v:=V h;clear h;go_wp2_with (fail);refine(bi.q _ _ (by simp only[Qa,Qd,Qi];omega) v.q).mono ?_;rintro e t⟨rfl,s⟩;have K:=V s;clear s;go_wp2_with (fail);refine(K.q.w P ⟨#[60,47,108,105,62,10]⟩ (by rw[Dj];simp only[Qba,Qa,Qd,Qi];omega)).mono ?_;rintro e ch⟨rfl,L⟩;have ab:=V (bj.q _ L);clear L;go_wp2;go_roundw
    case rel=>exact⟨f+1,Z,by go_num,ab⟩
    case measure=>exact Sj
   have bn:f=Ab.length:=Z;subst bn;rw[Qbl]at z bp bq;go_wp2_with (fail);refine(z.q.w F _ (by simp only[Ol,Dj,Qba,Qa,Qd,Qi];omega)).mono ?_;rintro e d⟨rfl,h⟩;have v:=V (b7.q _ _ h);clear h;go_wp2;go_end0;refine⟨rfl,?_⟩;have:=v.q;rw[a8.q]at this;rw[cb.q];rw[bf.q]at this ⊢;simpa [Ph,S.Bq,List.append_assoc]using this
 have M:I4 n=[111,108]:=by unfold I4;rw[if_pos Z]
 have dj:U (Value.string ⟨#[111,108]⟩=Value.string b1):=V (by rw[c6.q,M];rfl);have dh:(0:Int)<=n:=Z;by_cases b8:n=1
 ·subst b8;have bf:=V M;have al:J7 1=[]:=by unfold J7;rw[if_neg Z]
  have ap:U (u=(l++[60,111,108])++[62,10]):=V (by rw[a8.q,M,al];simp);clear M al;go_wp2_with fail
  rw[<-cc.q];refine(ce.q.w F _ (by simp only[Ol,Dj,Qba,Qd,Qi];omega)).mono ?_;rintro e d⟨rfl,h⟩;have ci:=X (R.q _ _ h) 3 _ rfl;have v:U (Wrote 124 B b (l++[60,111,108]) r d):=V (by simpa [Ph]using h);clear h;go_wp2_with fail
  refine(v.q.w F ⟨#[62,10]⟩ (by rw[Dj];simp only[Qba,Qa,Qd,Qi];omega)).mono ?_;rintro e t⟨rfl,s⟩;have K:=V s;clear s;have am:U (Wrote 124 B b u r t):=V (by rw[ap.q];exact K.q);clear ap K;have db:=X (R.q _ _ am.q) 7 _ rfl;go_wp2;go_loopw [6,40] (λ_ i wr=>∃f:Nat,f<=Ab.length/\i=.int .i64 f/\U (Wrote 124 B b (u++Es Bg (!Ai) (Ab.take f)) r wr)) (λ_ i _=>Ab.length-(intOf i).toNat)
  case atStart=>exact⟨0,Qt _,rfl,by simpa [Es]using am⟩
  case round=>
   obtain⟨f,c2,rfl,z⟩:=hrel;have bp:=Vv (!Ai) (Ab.take f) (Uy Ab a7.q f);have bq:=Ls Ab f;by_cases bs:f<Ab.length
   ·obtain⟨a,D⟩:∃a,Ab[f]?=some a:=⟨Ab[f],Qg bs⟩;obtain⟨G,W,au,aw,av,c9,bo,bl,T,ac,ae,af,ag,ah,ai,aj,ak⟩:=cf.q f a D;obtain⟨x,E,y,rfl⟩:=T.form;have br:=Ls Ab (f+1);rw[Rw Ab f a D,N7]at br;have C:=Rm Ab a7.q f a D;have ao:=a6.q _ _ z.q;have bm:=a5 G bl;have o:∀H,wr.cell? (G (W+f*8+H))=N.cell? (G (W+f*8+H)):=λH=>ao.cell (p:=⟨G,W+f*8+H,none⟩) bm;have bc:=(o 0).trans ac;have cl:=(o 1).trans ae;have cm:=(o 2).trans af;have cn:=(o 3).trans ag;have co:=(o 4).trans ah;have cp:=(o 5).trans ai;have cq:=(o 6).trans aj;have cr:=(o 7).trans ak;rw[SL]at bc;have bd:B<=wr:=Qj F z.q.2.1.size;obtain⟨m,Q⟩:=Qzz (Obj.cells #[.int .i64 a.kind,.int .i64 a.line,.slice au aw av,.int .i64 a.n,(S.B a.info),(S.B a.text),.bool a.Ai,.slice x E y] 110);have q:=z.q.Lm bd m;have aq:(wr.alloc m).heap[wr.heap.size]?=some (.cells #[.int .i64 a.kind,.int .i64 a.line,.slice au aw av,.int .i64 a.n,(S.B a.info),(S.B a.text),.bool a.Ai,.slice x E y] 110 (0,0)):=(by rw[Q];exact Ak _ _);have ar:=R.q _ _ q;have P:B<=(wr.alloc m).heap.size:=(by simp;omega);have bv:U (∀j d,Wrote 124 B b j (wr.alloc m) d->d.cell? (wr 7)=some (.slice x E y)/\d.cell? (w 6)=some (.bool Ai)):=V (λj d g=>⟨X (g.blk q.1 (T2:=110) aq J J) 7 _ rfl,X (g.blk q.1 (T2:=110) ar J J) 6 _ rfl⟩);have bt:=V (Wrote.refl q.1);have bi:U (∀j d,j.length+Bo a.Ab<=1000000000->Wrote 124 B b j (wr.alloc m) d->Calls prog 71 #[.pointer (some b),.slice x E y,.bool (!Ai)] d λe t=>e=.returned (.tuple #[])/\Wrote 124 B b (j++Cy Bg (!Ai) a.Ab) (wr.alloc m) t):=V (λj d bu g=>by
     have bh:Below B N d:=(a6.q _ _ q).trans g.2.1;have bk:C9 a.Ab:=by
      obtain⟨a3,ax,ay,az,a0,a1,a2⟩:=a;simp only[Gl]at C;exact C.2.2.2.2
     exact(b9.q f a D B b A N x E y (!Ai) j d a5 T bh (b6.q.below (q.trans g).2.1) g.1 (Qj P g.2.1.size) bk bu).mono (λe t ⟨h,s⟩=>⟨h,g.trans s⟩))
    have bj:U (∀d,Wrote 124 B b ((((u++Es Bg (!Ai) (Ab.take f))++[60,108,105,62,10])++Cy Bg (!Ai) a.Ab)++[60,47,108,105,62,10]) (wr.alloc m) d->Wrote 124 B b (u++Es Bg (!Ai) (Ab.take (f+1))) r d):=V (λd g=>by
     have:=q.trans g;rw[FI (!Ai) Ab f a D];obtain⟨a3,ax,ay,az,a0,a1,a2⟩:=a;simp only[Oe];simpa [S.Ac.Ab,List.append_assoc]using this)
    have cx:=O1 (!Ai) a.Ab (by
      obtain⟨a3,ax,ay,az,a0,a1,a2⟩:=a;simp only[Gl]at C;exact C.2.2.2.2)
    have bg:=V Q;clear ac ae af ag ah ai aj ak o aq ar q ao T C Q;subst bo;go_wp2_with (fail);rw[<-bg.q];refine(bt.q.w P ⟨#[60,108,105,62,10]⟩ (by rw[Dj];simp only[Qba,Qa,Qd,Qi];omega)).mono ?_;rintro e d⟨rfl,h⟩;obtain⟨dd,dc⟩:=bv.q _ _ h;have v:=V h;clear h;go_wp2_with (fail);refine(bi.q _ _ (by simp only[Qa,Qd,Qi];omega) v.q).mono ?_;rintro e t⟨rfl,s⟩;have K:=V s;clear s;go_wp2_with (fail);refine(K.q.w P ⟨#[60,47,108,105,62,10]⟩ (by rw[Dj];simp only[Qba,Qa,Qd,Qi];omega)).mono ?_;rintro e ch⟨rfl,L⟩;have ab:=V (bj.q _ L);clear L;go_wp2;go_roundw
    case rel=>exact⟨f+1,Z,by go_num,ab⟩
    case measure=>exact Sj
   have bn:f=Ab.length:=Z;subst bn;rw[Qbl]at z bp bq;go_wp2_with (fail);refine(z.q.w F _ (by simp only[Ol,Dj,Qba,Qa,Qd,Qi];omega)).mono ?_;rintro e d⟨rfl,h⟩;have v:=V (b7.q _ _ h);clear h;go_wp2;go_end0;refine⟨rfl,?_⟩;have:=v.q;rw[a8.q]at this;rw[cb.q];rw[bf.q]at this ⊢;simpa [Ph,S.Bq,List.append_assoc]using this
 have bf:=V M;have al:J7 n=[32,115,116,97,114,116,61,34]++Lib.itoa n++[34]:=by unfold J7;rw[if_pos ⟨Z,b8⟩]
 have ap:U (u=((l++[60,111,108])++([32,115,116,97,114,116,61,34]++Lib.itoa n++[34]))++[62,10]):=V (by rw[a8.q,M,al];simp);have dg:(n == 1)=false:=by rw[Qe];exact b8
 have dw:(n != 1)=true:=by rw[bne,dg];rfl
 obtain⟨aa,cd⟩:=Qyy (S.B (Lib.itoa n));have dv:aa.size<=21:=by rw[<-cd,S.Bc];exact c1
 have c4:=V cd;clear M al b8 cd c1;go_wp2_with fail
 rw[<-cc.q];refine(ce.q.w F _ (by simp only[Ol,Dj,Qba,Qd,Qi];omega)).mono ?_;rintro e d⟨rfl,h⟩;have ci:=X (R.q _ _ h) 3 _ rfl;have v:U (Wrote 124 B b (l++[60,111,108]) r d):=V (by simpa [Ph]using h);have de:B<=d.heap.size:=Qj F h.2.1.size;clear h;have df:U (∀b2,After d b2->Calls prog 193 #[n] b2 λe t=>e=.returned aa/\t.cell? (w 3)=some (.int .i64 n)/\U (Wrote 124 B b (l++[60,111,108]) r t)):=V (λb2 dk=>by
  have g:=v.q.below dk de;have:=g.i F b6.q n b3 b4;rw[c4.q]at this;exact this.mono (λe t ⟨h,s⟩=>⟨h,X (R.q _ _ s) 3 _ rfl,V s⟩))
 have dq:Op.stringOp .add ⟨#[32,115,116,97,114,116,61,34]⟩ aa=pure (.string ((⟨#[32,115,116,97,114,116,61,34]⟩:Sb)++aa)):=Yx _ _ (by show 8+aa.size<=9223372036854775807;omega);have dr:Op.stringOp .add ((⟨#[32,115,116,97,114,116,61,34]⟩:Sb)++aa) ⟨#[34]⟩=pure (.string ((⟨#[32,115,116,97,114,116,61,34]⟩:Sb)++aa ++ ⟨#[34]⟩)):=Yx _ _ (by rw[Ol];show 8+aa.size+1<=9223372036854775807;omega);go_upto_region 6 with fail
 go_cut [4] (λdl b2=>dl=.string ⟨#[111,108]⟩/\U (Wrote 124 B b ((l++[60,111,108])++([32,115,116,97,114,116,61,34]++Lib.itoa n++[34])) r b2))
 case first=>
  go_region_held3 (λcg=>cg.cell? (w 3)=some (.int .i64 n))
   (first|assumption|exact ci)
   (first
    |(go_at_call 193;refine(df.q _ Yr).mono ?_;rintro e t⟨rfl,d5,K⟩)
    |(go_at_call 60;refine(K.q.w F _ (by simp only[Ol,Dj,Qba,Qa,Qd,Qi];omega)).mono ?_;rintro e ch⟨rfl,L⟩;have d6:=X (R.q _ _ L) 3 _ rfl;have ab:=V L;clear L))
  all_goals (go_wp2_with fail;go_meet;exact⟨rfl,V (by have:=ab.q;rw[<-c4.q]at this;simpa [Ph,S.Bq,List.append_assoc]using this)⟩)
 case rest=>
 obtain⟨rfl,ab⟩:=hcut;go_wp2_with fail
 refine(ab.q.w F ⟨#[62,10]⟩ (by rw[Dj];have:=Lib.itoa_length_le n b3 b4;simp only[Qba,Qa,Qd,Qi];omega)).mono ?_;rintro e dn⟨rfl,cs⟩;have cj:=V cs;clear cs;have am:U (Wrote 124 B b u r dn):=V (by rw[ap.q];exact cj.q);clear ap cj;have db:=X (R.q _ _ am.q) 7 _ rfl;go_wp2;go_loopw [6,40] (λ_ i wr=>∃f:Nat,f<=Ab.length/\i=.int .i64 f/\U (Wrote 124 B b (u++Es Bg (!Ai) (Ab.take f)) r wr)) (λ_ i _=>Ab.length-(intOf i).toNat)
 case atStart=>exact⟨0,Qt _,rfl,by simpa [Es]using am⟩
 case round=>
  obtain⟨f,c2,rfl,z⟩:=hrel;have bp:=Vv (!Ai) (Ab.take f) (Uy Ab a7.q f);have bq:=Ls Ab f;by_cases bs:f<Ab.length
  ·obtain⟨a,D⟩:∃a,Ab[f]?=some a:=⟨Ab[f],Qg bs⟩;obtain⟨G,W,au,aw,av,c9,bo,bl,T,ac,ae,af,ag,ah,ai,aj,ak⟩:=cf.q f a D;obtain⟨x,E,y,rfl⟩:=T.form;have br:=Ls Ab (f+1);rw[Rw Ab f a D,N7]at br;have C:=Rm Ab a7.q f a D;have ao:=a6.q _ _ z.q;have bm:=a5 G bl;have o:∀H,wr.cell? (G (W+f*8+H))=N.cell? (G (W+f*8+H)):=λH=>ao.cell (p:=⟨G,W+f*8+H,none⟩) bm;have bc:=(o 0).trans ac;have cl:=(o 1).trans ae;have cm:=(o 2).trans af;have cn:=(o 3).trans ag;have co:=(o 4).trans ah;have cp:=(o 5).trans ai;have cq:=(o 6).trans aj;have cr:=(o 7).trans ak;rw[SL]at bc;have bd:B<=wr:=Qj F z.q.2.1.size;obtain⟨m,Q⟩:=Qzz (Obj.cells #[.int .i64 a.kind,.int .i64 a.line,.slice au aw av,.int .i64 a.n,(S.B a.info),(S.B a.text),.bool a.Ai,.slice x E y] 110);have q:=z.q.Lm bd m;have aq:(wr.alloc m).heap[wr.heap.size]?=some (.cells #[.int .i64 a.kind,.int .i64 a.line,.slice au aw av,.int .i64 a.n,(S.B a.info),(S.B a.text),.bool a.Ai,.slice x E y] 110 (0,0)):=by rw[Q];exact Ak _ _
   have ar:=R.q _ _ q;have P:B<=(wr.alloc m).heap.size:=by simp;omega
   have bv:U (∀j d,Wrote 124 B b j (wr.alloc m) d->d.cell? (wr 7)=some (.slice x E y)/\d.cell? (w 6)=some (.bool Ai)):=V (λj d g=>⟨X (g.blk q.1 (T2:=110) aq J J) 7 _ rfl,X (g.blk q.1 (T2:=110) ar J J) 6 _ rfl⟩);have bt:=V (Wrote.refl q.1);have bi:U (∀j d,j.length+Bo a.Ab<=1000000000->Wrote 124 B b j (wr.alloc m) d->Calls prog 71 #[.pointer (some b),.slice x E y,.bool (!Ai)] d λe t=>e=.returned (.tuple #[])/\Wrote 124 B b (j++Cy Bg (!Ai) a.Ab) (wr.alloc m) t):=V (λj d bu g=>by
    have bh:Below B N d:=(a6.q _ _ q).trans g.2.1;have bk:C9 a.Ab:=by
     obtain⟨a3,ax,ay,az,a0,a1,a2⟩:=a;simp only[Gl]at C;exact C.2.2.2.2
    exact(b9.q f a D B b A N x E y (!Ai) j d a5 T bh (b6.q.below (q.trans g).2.1) g.1 (Qj P g.2.1.size) bk bu).mono (λe t ⟨h,s⟩=>⟨h,g.trans s⟩))
   have bj:U (∀d,Wrote 124 B b ((((u++Es Bg (!Ai) (Ab.take f))++[60,108,105,62,10])++Cy Bg (!Ai) a.Ab)++[60,47,108,105,62,10]) (wr.alloc m) d->Wrote 124 B b (u++Es Bg (!Ai) (Ab.take (f+1))) r d):=V (λd g=>by
    have:=q.trans g;rw[FI (!Ai) Ab f a D];obtain⟨a3,ax,ay,az,a0,a1,a2⟩:=a;simp only[Oe];simpa [S.Ac.Ab,List.append_assoc]using this)
   have cx:=O1 (!Ai) a.Ab (by
     obtain⟨a3,ax,ay,az,a0,a1,a2⟩:=a;simp only[Gl]at C;exact C.2.2.2.2)
   have bg:=V Q;clear ac ae af ag ah ai aj ak o aq ar q ao T C Q;subst bo;go_wp2_with (fail);rw[<-bg.q];refine(bt.q.w P ⟨#[60,108,105,62,10]⟩ (by rw[Dj];simp only[Qba,Qa,Qd,Qi];omega)).mono ?_;rintro e d⟨rfl,h⟩;obtain⟨dd,dc⟩:=bv.q _ _ h;have v:=V h;clear h;go_wp2_with (fail);refine(bi.q _ _ (by simp only[Qa,Qd,Qi];omega) v.q).mono ?_;rintro e t⟨rfl,s⟩;have K:=V s;clear s;go_wp2_with (fail);refine(K.q.w P ⟨#[60,47,108,105,62,10]⟩ (by rw[Dj];simp only[Qba,Qa,Qd,Qi];omega)).mono ?_;rintro e ch⟨rfl,L⟩;have ab:=V (bj.q _ L);clear L;go_wp2;go_roundw
   case rel=>exact⟨f+1,Z,by go_num,ab⟩
   case measure=>exact Sj
  have bn:f=Ab.length:=Z;subst bn;rw[Qbl]at z bp bq;go_wp2_with fail
  refine(z.q.w F _ (by simp only[Ol,Dj,Qba,Qa,Qd,Qi];omega)).mono ?_;rintro e d⟨rfl,h⟩;have v:=V (b7.q _ _ h);clear h;go_wp2;go_end0;refine⟨rfl,?_⟩;have:=v.q;rw[a8.q]at this;rw[cb.q];rw[bf.q]at this ⊢;simpa [Ph,S.Bq,List.append_assoc]using this
theorem LK (a:List UInt8->List UInt8)(d:Bool)(z k n:Int)(info text:List UInt8)(Ai:Bool)(Ab:List S.Ac):Gs a d (.at_ z k n info text Ai Ab) =
  if k=1 then (if d=true then a text++[10]else [60,112,62]++a text++[60,47,112,62,10])
  else if k=2 then [60,104]++Lib.itoa n++[62]++a text++([60,47,104]++Lib.itoa n++[62,10])
  else if k=3 then [60,112,114,101,62,60,99,111,100,101]++(if info=[]then []else [32,99,108,97,115,115,61,34]++S.Bd (S.word info)++[34])++[62]++S.Bd text++[60,47,99,111,100,101,62,60,47,112,114,101,62,10]
  else if k=4 then [60,104,114,62,10]
  else if k=5 then [60,113,117,111,116,101,62,10]++Cy a false Ab++[60,47,113,117,111,116,101,62,10]
  else if k=6 then [60]++I4 n++J7 n++[62,10]++Es a (!Ai) Ab++([60,47]++I4 n++[62,10])
  else []:=by simp only[Gs]
theorem zho (B b:Nat)(A:Nat->Prop)(R:Sw)(l:List UInt8)(w:Sw)(aj:∀av,A av->av<B)(a1:Below B R w)(am:Kn B b l w)(ak:B<=w)(ao:Cv B w)(k p:Int)(x:So)(z y:Nat)(n:Int)(info text:List UInt8)(Ai:Bool)(q:So)(s r:Nat)(ab:Bool)(Ab:List S.Ac)(ar:Co R A (.slice q s r) Ab)(a0:Yk Ab)(az:∀(i:Nat) (au:S.Ac),Ab[i]?=some au->Yk au.Ab)(ap:Gl (.at_ p k n info text Ai Ab))(aq:l.length+Eo (.at_ p k n info text Ai Ab)<=1000000000):Calls prog 102 #[.pointer (some b),.agg #[k,p,.slice x z y,n,(S.B info),(S.B text),Ai,.slice q s r],ab] w λe a4=>e=.returned (.tuple #[])/\Wrote 124 B b (l++Gs Bg ab (.at_ p k n info text Ai Ab)) w a4:=by
 simp only[Gl]at ap;obtain⟨ah,ai,a2,ae,ac⟩:=ap;rw[N7]at aq;simp only[S.Ac.info,S.Ac.text,S.Ac.Ab]at aq;obtain⟨v,g⟩:=Qzz (Gs Bg ab (.at_ p k n info text Ai Ab));rw[<-g];rw[LK]at g;have a5:=O1 false Ab ac;obtain⟨f,W⟩:=Qzz (w.alloc (.cells #[k,p,.slice x z y,n,(S.B info),(S.B text),Ai,.slice q s r] 110));have F:Wrote 124 B b l w f:=by rw[W];exact(Wrote.refl am).Lm ak _
 have D:f.heap[w.heap.size]?=some (.cells #[k,p,.slice x z y,n,(S.B info),(S.B text),Ai,.slice q s r] 110 (0,0)):=by rw[W];exact Ak _ _
 have a3:U (∀h a,Wrote 124 B b h w a->Wrote 124 B b h f a->a.heap[w.heap.size]?=some (.cells #[k,p,.slice x z y,n,(S.B info),(S.B text),Ai,.slice q s r] 110 (0,0))):=V (λh a _ m=>m.blk F.1 D J J);have C:B<=f:=Qj ak F.2.1.size;have an:Cv B f:=ao.below F.2.1;have u:=V (Wrote.refl F.1);have E:U (∀h a,Wrote 124 B b h f a->Wrote 124 B b h w a):=V (λh a m=>F.trans m);have aa:U (∀h a,Wrote 124 B b h f a->a.heap[w.heap.size]?=some (.cells #[k,p,.slice x z y,n,(S.B info),(S.B text),Ai,.slice q s r] 110 (0,0))):=V (λh a m=>m.blk F.1 D J J);have G:=V W;have Q:=V an;have bh:=X D 3 _ rfl;have bi:=X D 4 _ rfl;have bj:=X D 5 _ rfl;have bk:=X D 6 _ rfl;have bl:=X D 7 _ rfl;clear am D F W a3 an ao;have bd:=X (aa.q _ _ u.q) 0 _ rfl;have bf:=X (aa.q _ _ u.q) 1 _ rfl;have bg:=X (aa.q _ _ u.q) 2 _ rfl;have al:U (∀h a,Wrote 124 B b h f a->Below B R a):=V (λh a m=>a1.trans (E.q h a m).2.1);rcases Classical.em (k=1)with H|H
 ·subst H;have t:=V (zmy B b l f u.q.1 C Q.q 1 p x z y n info text Ai q s r ab ae Z);have o:U (v=_):=V (g.trans (by rw[if_pos rfl]));clear g;go_enter func102,ntmps102;go_wp2_with fail
  rw[<-G.q];apply t.m;rintro e a⟨rfl,d⟩;have j:=V (E.q _ _ d);clear d;go_wp2;go_end0;exact⟨rfl,by rw[o.q];exact j.q⟩
 rcases Classical.em (k=2)with K|K
 ·subst K;have t:=V (zfa B b l f u.q.1 C Q.q 2 p x z y n info text Ai q s r ah ai ae Z);have o:U (v=_):=V (g.trans (by rw[if_neg J,if_pos rfl]));clear g;go_enter func102,ntmps102;go_wp2_with fail
  rw[<-G.q];apply t.m;rintro e a⟨rfl,d⟩;have j:=V (E.q _ _ d);clear d;go_wp2;go_end0;exact⟨rfl,by rw[o.q];exact j.q⟩
 rcases Classical.em (k=3)with L|L
 ·subst L;have t:=V (zi8 B b l f u.q.1 C Q.q 3 p x z y n info text Ai q s r ae a2 Z);have o:U (v=_):=V (g.trans (by rw[if_neg J,if_neg J,if_pos rfl]));clear g;go_enter func102,ntmps102;go_wp2_with fail
  rw[<-G.q];apply t.m;rintro e a⟨rfl,d⟩;have j:=V (E.q _ _ d);clear d;go_wp2;go_end0;exact⟨rfl,by rw[o.q];exact j.q⟩
 rcases Classical.em (k=4)with M|M
 ·subst M;have t:=V (u.q.w C ⟨#[60,104,114,62,10]⟩ (by rw[Dj];simp only[Qba,Qd,Qi];omega));have o:U (v=_):=V (g.trans (by rw[if_neg J,if_neg J,if_neg J,if_pos rfl]));clear g;go_enter func102,ntmps102;go_wp2_with fail
  rw[<-G.q];apply t.m;rintro e a⟨rfl,d⟩;have j:=V (E.q _ _ d);clear d;go_wp2;go_end0;exact⟨rfl,by rw[o.q];exact j.q⟩
 rcases Classical.em (k=5)with N|N
 ·subst N;have t:=V (u.q.w C ⟨#[60,113,117,111,116,101,62,10]⟩ (by rw[Dj];simp only[Qba,Qd,Qi];omega));have o:U (v=_):=V (g.trans (by rw[if_neg J,if_neg J,if_neg J,if_neg J,if_pos rfl]));have ay:U (∀a,Wrote 124 B b (l++[60,113,117,111,116,101,62,10]) f a->Calls prog 71 #[.pointer (some b),.slice q s r,false] a λe af=>e=.returned (.tuple #[])/\Wrote 124 B b ((l++[60,113,117,111,116,101,62,10])++Cy Bg false Ab) f af):=V (λa m=>(a0 B b A R q s r false _ a aj ar (al.q _ _ m) (Q.q.below m.2.1) m.1 (Qj C m.2.1.size) ac (by simp only[Qa,Qd,Qi];omega)).mono (λe af ⟨d,T⟩=>⟨d,m.trans T⟩));clear g;go_enter func102,ntmps102;go_wp2_with fail
  rw[<-G.q];apply t.m;rintro e a⟨rfl,d⟩;have bm:=X (aa.q _ _ d) 7 _ rfl;have j:=V d;clear d;go_wp2_with fail
  refine(ay.q _ j.q).mono ?_;rintro e af⟨rfl,T⟩;have aw:=V T;clear T;go_wp2_with fail
  refine(aw.q.w C ⟨#[60,47,113,117,111,116,101,62,10]⟩ (by rw[Dj];simp only[Qba,Qa,Qd,Qi];omega)).mono ?_;rintro e bc⟨rfl,ag⟩;have ax:=V (E.q _ _ ag);clear ag;go_wp2;go_end0;exact⟨rfl,by rw[o.q];simpa [List.append_assoc]using ax.q⟩
 rcases Classical.em (k=6)with P|P
 ·subst P;have t:=V (zle B b A R l f aj (al.q _ _ u.q) u.q.1 C Q.q 6 p x z y n info text Ai q s r Ab ar az ac ah ai Z);have o:U (v=_):=V (g.trans (by rw[if_neg J,if_neg J,if_neg J,if_neg J,if_neg J,if_pos rfl]));clear g;go_enter func102,ntmps102;go_wp2_with fail
  rw[<-G.q];apply t.m;rintro e a⟨rfl,d⟩;have j:=V (E.q _ _ d);clear d;go_wp2;go_end0;exact⟨rfl,by rw[o.q];exact j.q⟩
 have o:U (v=[]):=V (by rw[g,if_neg H,if_neg K,if_neg L,if_neg M,if_neg N,if_neg P]);have a6:(k == 1)=false:=by rw[Qe];exact H
 have a7:(k == 2)=false:=by rw[Qe];exact K
 have a8:(k == 3)=false:=by rw[Qe];exact L
 have a9:(k == 4)=false:=by rw[Qe];exact M
 have ba:(k == 5)=false:=by rw[Qe];exact N
 have bb:(k == 6)=false:=by rw[Qe];exact P
 clear g H K L M N P;have j:=V (E.q _ _ u.q);go_enter func102,ntmps102;go_wp2;rw[<-G.q];go_end0;exact⟨rfl,by rw[o.q,Qbk];exact j.q⟩
theorem zev (N:Nat):∀(d:List S.Ac),Bo d<=N->Yk d:=by
 induction N using Nat.strongRecOn with
 |_ N am=>
 intro d W B b ap ao bs bu bt h v w T ak aa af ac ay ag bp;obtain⟨ba,al⟩:=U5 ak;have br:=X9 d;have a2:=V (Wrote.refl ac);have bf:=V al;have ah:=V ag;have ab:=V aa;have a4:=V af;have an:=V am;have a1:=V W;clear ak al ac ag aa af am W;subst ba;go_enter func71,ntmps71;go_wp2;go_loopw [7,10] (λ_ i wr=>∃a:Nat,a<=d.length/\i=.int .i64 a/\U (Wrote 124 B b (v++Cy Bg h (d.take a)) w wr)) (λ_ i _=>d.length-(intOf i).toNat)
 case atStart=>exact⟨0,Qt _,rfl,by simpa [Cy]using a2⟩
 case round=>
  obtain⟨a,bo,rfl,k⟩:=hrel;by_cases bc:a<d.length
  ·obtain⟨f,u⟩:∃f,d[a]?=some f:=⟨d[a],Qg bc⟩;obtain⟨s,Q,x,z,y,bv,a9,a5,t,D,E,F,G,H,K,L,M⟩:=bf.q a f u;obtain⟨q,A,r,rfl⟩:=t.form;have bq:=O1 h (d.take a) (Uy d ah.q a);have bb:=Ls d (a+1);rw[Rw d a f u]at bb;have ai:=Rm d ah.q a f u;have ae:=ab.q.trans k.q.2.1;have a6:=T s a5;have g:∀C,wr.cell? (s (Q+a*8+C))=ao.cell? (s (Q+a*8+C)):=λC=>ae.cell (p:=⟨s,Q+a*8+C,none⟩) a6;have bd:U (v++Cy Bg h (d.take (a+1))=(v++Cy Bg h (d.take a))++Gs Bg h f):=V (by rw[XF h d a f u,Qp]);obtain⟨o,m,n,info,text,Ai,Ab⟩:=f;simp only[S.Ac.kind,S.Ac.line,S.Ac.n,S.Ac.info,S.Ac.text,S.Ac.Ai,S.Ac.Ab]at D E F G H K L M t;have ar:=(g 0).trans D;have bh:=(g 1).trans E;have bi:=(g 2).trans F;have bj:=(g 3).trans G;have bk:=(g 4).trans H;have bl:=(g 5).trans K;have bm:=(g 6).trans L;have bn:=(g 7).trans M;rw[SL]at ar;have az:B<=wr:=Qj ay k.q.2.1.size;obtain⟨j,P⟩:=Qzz (Obj.cells #[m,o,.slice x z y,n,(S.B info),(S.B text),Ai,.slice q A r] 110);have l:=k.q.Lm az j;have aj:Bo Ab<N:=by
    have:=a1.q;have aw:=N7 (.at_ o m n info text Ai Ab);simp only[S.Ac.Ab]at aw;omega
   have a0:U (Calls prog 102 #[.pointer (some b),.agg #[m,o,.slice x z y,n,(S.B info),(S.B text),Ai,.slice q A r],h] (wr.alloc j) λe R=>e=.returned (.tuple #[])/\U (Wrote 124 B b (v++Cy Bg h (d.take (a+1))) w R)):=V ((zho B b ap ao _ (wr.alloc j) T (ab.q.trans l.2.1) l.1 (by simp;omega) (a4.q.below l.2.1) m o x z y n info text Ai q A r h Ab t (an.q (Bo Ab) aj Ab (Qc _)) (λi f a7=>an.q (Bo f.Ab) (by
     have ax:=Ls Ab (i+1);rw[Rw Ab i f a7,N7]at ax;omega) f.Ab (Qc _)) ai (by simp only[Qa];omega)).mono (λe R ⟨au,av⟩=>⟨au,V (by rw[bd.q];exact l.trans av)⟩))
   have a3:=V P;have bg:(wr.alloc j).heap[wr.heap.size]?=some (.cells #[m,o,.slice x z y,n,(S.B info),(S.B text),Ai,.slice q A r] 110 (0,0)):=by rw[P];exact Ak _ _
   clear D E F G H K L M g l ae t ai P aj bg;subst a9;go_wp2_with (fail);rw[<-a3.q];apply a0.m;rintro e R⟨rfl,aq⟩;go_wp2;go_roundw
   case rel=>exact⟨a+1,Z,by go_num,aq⟩
   case measure=>exact Sj
  have a8:a=d.length:=Z;subst a8;rw[Qbl]at k;go_wp2;go_end0;exact⟨rfl,k.q⟩
def fin (a:Sb):Nat->St->Option (List Pt)
 |0,d=>if d.k=a.size then some (d.skip a 0).ps else none
 |n+1,d=>if d.k=a.size then some (d.skip a 0).ps else if d.k<a.size then fin a n (step a d)else none
theorem ZW (f:Sb)(n:Nat)(s:St)(r:List Pt)(a:fin f n s=some r):Ends f s r:=by
 induction n generalizing s with
 |zero=>
  unfold fin at a;split at a
  ·rename_i d;cases a;exact .done s d
  cases a
 |succ n g=>
  unfold fin at a;split at a
  ·rename_i d;cases a;exact .done s d
  split at a
  ·rename_i d;exact .go s r d (g _ a)
  cases a
theorem znt (c:List UInt8)(n:Nat)(a:(fin (S.B c) n Ki).isSome=true):Ey c=He ((fin (S.B c) n Ki).getD []):=by
 cases d:fin (S.B c) n Ki with
 |none=>rw[d]at a;simp at a
 |some f=>exact Ut c f (ZW _ _ _ _ d)
