import Derived.Test.YtlojgpkajkedeaaGreatDoorOKJ
set_option maxHeartbeats 0
set_option maxRecDepth 100000
namespace Go.Proofs.YtlojgpkajkedeaaGreatDoor
open Go.RowKit Go.Proofs.Tryz
structure Om where
 kd:Int
 on:Int
 at_:Int
 rem:Int
 x:ByteArray
def Yc (z:Om):List Value:=[.int .i64 z.kd,.int .i64 z.on,.int .i64 z.at_,.int .i64 z.rem,.string z.x]
def Oy (z:Int):Prop:=-9223372036854775808<=z/\z<=9223372036854775807
def OC (a:So)(j:List Om)(w:Sw):Prop:=∀(i:Nat) (d:Om),j[i]?=some d->∃b g,a=some ⟨b,g,none⟩/\b<w.heap.size/\(∀f h,(Yc d)[f]?=some h->w.cell? ⟨b,g+i*5+f,none⟩=some h)/\Oy d.on/\Oy d.at_/\Oy d.rem/\d.x.size<=1048576
theorem Dl.init {w w':Sw}(h:w'=w.alloc (.cells #[Sx,Sx,Sx,Sx] 56)):Dl w w.heap.size [] 0 0 w':=by
 subst h;refine⟨λd=>if d=w.heap.size then 1 else 0,λ_=>.slice none 0 0,λ_=>[],⟨Ak _ _,if_pos rfl,Qc _,λk _=>⟨rfl,.inl ⟨rfl,rfl⟩⟩,λk _ m f=>by simp[Value.ownBlock]at f,λi o g=>by simp at g,λi l a=>by simp at a,λi l a=>by simp at a,λd j=>if_neg (λe=>by subst e;simp at j;omega)⟩,rfl,rfl,rfl,rfl⟩
theorem Dl.len {j h n t:Nat}{g:List (Nat×ByteArray)}{w:Sw}(k:Dl j h g n t w):∃a c,w.cell? h=some (.slice a g.length c):=by
 obtain⟨o,m,p,d,l,_⟩:=k;obtain⟨a,c,f⟩:=ownsRow_form (d.ro 0 Z);rw[l,List.length_map]at f;exact⟨a,c,by rw[X d.hd 0 (m 0) rfl,f]⟩
theorem Dl.still {a g n t:Nat}{j:List (Nat×ByteArray)}{w:Sw}(d:Dl a g j n t w)(r:n<=250000)(s:t<=250000):Calls prog 37 #[.pointer (some (g 2))] w λe f=>e=.returned true/\U (Dl a g j n t f/\Below a w f):=by
 have q:=d.lt;have k:=d;obtain⟨m,v,u,l,_,_,o,p⟩:=d;refine(zbr w l Z Z).mono ?_;rintro e f⟨rfl,h⟩;exact⟨rfl,V ⟨k.below h,h.mono Z⟩⟩
def Jr (w:Sw)(m n t:Nat)(wr:Sw):Prop:=∃a,Dl w w a n t wr/\1<=a.length/\a.length<=m/\Below w w wr
theorem Jr.still {w wr:Sw}{m n t:Nat}(f:Jr w m n t wr)(l:n<=250000)(o:t<=250000):Calls prog 37 #[.pointer (some (w 2))] wr λe d=>e=.returned true/\U (Jr w m n t d):=by
 obtain⟨p,g,h,j,k⟩:=f;refine(g.still l o).mono ?_;rintro e d⟨rfl,a⟩;exact⟨rfl,V ⟨p,a.q.1,h,j,k.trans a.q.2⟩⟩
structure KN (w:Sw)(i n t:Nat)(z:Om)(W:Sw)(ob:Nat):Prop where
 beg:Calls prog 34 #[.pointer (some w),z.x] W λe w'=>e=.returned true/\U (Jr w (i+2) n t w')
 tree:∀wx,Below W W wx->Calls prog 24 #[.pointer (some (w 2)),z.x] wx λe w'=>e=.returned true/\U (Jr w (i+2) (n+1) t w'/\w'.cell? (ob 4)=some (.string z.x))
 page:∀wx,Jr w (i+2) (n+1) t wx/\wx.cell? (ob 4)=some (.string z.x)->Calls prog 29 #[z.x] wx λe w'=>e=.returned true/\U (Jr w (i+2) (n+1) t w'/\w'.cell? (ob 4)=some (.string z.x))
 head:∀wx wy,Jr w (i+2) (n+1) t wx->Below wx.heap.size wx wy->Calls prog 30 #[.pointer (some (w 2)),z.x] wy λe w'=>e=.returned true/\U (Jr w (i+2) (n+1) (t+1) w')
 step:∃(m:Nat) (a:So) (c:Nat),1<=m/\m<=i+1/\W.cell? w=some (.slice a m c)/\(∀wx,Calls prog 36 #[z.on,m] wx λe w'=>∃q:Nat,(q:Int)<(m:Int)/\e=.returned q/\wx=w')/\∀(q:Nat) wx,(q:Int)<(m:Int)->Below W W wx->Calls prog 35 #[.pointer (some w),q,.agg #[z.kd,z.on,z.at_,z.rem,z.x]] wx λe w'=>e=.returned true/\U (∃t',t'<=t+1/\Jr w (i+2) n t' w')
 non:Jr w (i+2) n t W
theorem zel {w wr W:Sw}{i n t:Nat}{z:Om}(H:Cv w w)(Q:Jr w (i+1) n t wr)(ah:i<=190000)(aj:n<=i)(al:t<=i+1)(G:Below wr wr W)(K:W.heap[wr.heap.size]?=some (.cells #[z.kd,z.on,z.at_,z.rem,z.x] 59 (0,0)))(C:Oy z.on)(D:Oy z.at_)(E:Oy z.rem)(ag:z.x.size<=1048576):KN w i n t z W wr.heap.size:=by
 obtain⟨r,F,v,ab,R⟩:=Q;have ai:=F.lt;have m:=F.below G;have o:Below w w W:=R.trans (G.mono Z);have q:∀{a:Sw},Below w w a->Cv w a/\Cv a a:=λd=>⟨H.below d,(H.below d).mono d.size⟩;have u:∀{a:Sw},Below W W a->Below w w a:=λd=>o.trans (d.mono o.size);refine⟨?_,?_,?_,?_,?_,⟨r,m,v,Z,o⟩⟩
 ·refine(LU z.x W m Z (q o).2).mono ?_;rintro e x⟨rfl,f⟩;obtain⟨b,h,j⟩:=f.q;refine⟨rfl,V ⟨_,h,?_,?_,o.trans j⟩⟩
  ·split
   ·rw[Qa];omega
   exact v
  split
  ·rw[Qa,List.length_singleton];omega
  omega
 ·intro a d;have L:a.heap[wr.heap.size]?=_:=(d.block _ (Qq.1 K).1).trans K;refine(ze6 z.x a (q (u d)).1.1 (m.below d) Z).mono ?_;rintro e x⟨rfl,f⟩;exact⟨rfl,V ⟨⟨r,f.q.1,v,Z,(u d).trans f.q.2.1⟩,X ((f.q.2.2 _ _ _ L).trans L) 4 _ rfl⟩⟩
 ·rintro a⟨⟨s,h,j,k,g⟩,l⟩;refine(za3 z.x a (q g).2).mono ?_;rintro e x⟨rfl,y⟩;exact⟨rfl,V ⟨⟨s,h.below y,j,k,g.trans (y.mono g.size)⟩,(y.cell (p:=⟨wr,4,none⟩) (Sqf _ _ l)).trans l⟩⟩
 ·rintro a N⟨s,h,j,k,g⟩ M;have l:Below w w N:=g.trans (M.mono g.size);refine(ZO z.x N (q l).2 (h.below M) Z).mono ?_;rintro e x⟨rfl,f⟩;exact⟨rfl,V ⟨s,f.q.1,j,k,l.trans f.q.2⟩⟩
 obtain⟨P,c,T⟩:=m.len;refine⟨r.length,P,c,v,ab,T,λa=>FK _ z.on a Z Z C.1 C.2,λA a ak d=>?_⟩;obtain⟨⟨ae,ac⟩,aa⟩:∃p,r[A]?=some p:=⟨r[A],Qg Z⟩;refine(UO A ae ac z.x z.kd z.on z.at_ z.rem a (m.below d) aa Z D.1 D.2 E.1 E.2 (q (u d)).1 Z).mono ?_;rintro e x⟨rfl,f⟩;obtain⟨s,af,h,j,k,g⟩:=f.q;exact⟨rfl,V ⟨af,k,s,h,Z,Z,(u d).trans g⟩⟩
theorem zn2 (N:So)(k:List Om)(bg:Nat)(w:Sw)(C:OC N k w)(ck:k.length<=180000)(K:Cv w w):Calls prog 12 #[.slice N k.length bg] w λe o=>e=.returned true/\Below w w o:=by
 obtain⟨v,F⟩:=Qzz (w.alloc (.cells #[Sx,Sx,Sx,Sx] 56));have H:Below w w v:=by rw[F];exact Sr.alloc (Qc _) _
 have am:=Dl.init F;have L:∀{f:Sw},Below w w f->Cv w f/\Cv f.heap.size f:=λg=>⟨K.below g,(K.below g).mono g.size⟩;have ak:=V (zmt v (L H).1.1);have ai:U (∀f,Below v v f->Calls prog 34 #[.pointer (some w),.string ⟨#[35,32,97,32,42,98,42]⟩] f λe o=>e=.returned true/\(∃bf c,o.cell? w=some (.slice bf 1 c))/\U (Calls prog 35 #[.pointer (some w),O,.agg #[(4:Int),O,O,O,()]] o λe ae=>e=.returned true/\U (∃a,a<=1/\Jr w 1 0 a ae))):=V (λf g=>by
  have ay:Below w w f:=H.trans (g.mono H.size);refine(LU ⟨#[35,32,97,32,42,98,42]⟩ f (am.below g) Y (L ay).2).mono ?_;rintro e o⟨rfl,u⟩;obtain⟨b,y,Q⟩:=u.q;rw[if_pos J]at y;have E:Below w w o:=ay.trans Q;refine⟨rfl,y.len,V ?_⟩;refine(UO 0 b ⟨#[35,32,97,32,42,98,42]⟩ ⟨#[]⟩ 4 0 0 0 o y rfl J J J J J (L E).1 J).mono ?_;rintro e ae⟨rfl,bn⟩;obtain⟨b9,ac,bx,az,bz,b0⟩:=bn.q;exact⟨rfl,V ⟨ac,bz,b9,bx,by rw[az];exact Qc 1,by rw[az];exact Qc 1,E.trans b0⟩⟩)
 have T:U (∀wr,U (Below w w wr)->∀i d,k[i]?=some d->∃b j,N=some ⟨b,j,none⟩/\wr.cell? ⟨b,j+i*5,none⟩=some (.int .i64 d.kd)/\wr.cell? ⟨b,j+i*5+1,none⟩=some (.int .i64 d.on)/\wr.cell? ⟨b,j+i*5+2,none⟩=some (.int .i64 d.at_)/\wr.cell? ⟨b,j+i*5+3,none⟩=some (.int .i64 d.rem)/\wr.cell? ⟨b,j+i*5+4,none⟩=some (.string d.x)/\∀n a,Jr w (i+1) n a wr->n<=i->a<=i+1->∀l,Below wr.heap.size wr l->l.heap[wr.heap.size]?=some (.cells #[.int .i64 d.kd,.int .i64 d.on,.int .i64 d.at_,.int .i64 d.rem,.string d.x] 59 (0,0))->KN w i n a d l wr.heap.size):=V (λwr bw i d ax=>by
  have bp:=(Qb.1 ax).1;obtain⟨b,j,bj,bk,bl,bm,m,q,z⟩:=C i d ax;have A:∀D M,(Yc d)[D]?=some M->wr.cell? ⟨b,j+i*5+D,none⟩=some M:=λD M bv=>(bw.q.cell (p:=⟨b,j+i*5+D,none⟩) bk).trans (bl D M bv);exact⟨b,j,bj,A 0 _ rfl,A 1 _ rfl,A 2 _ rfl,A 3 _ rfl,A 4 _ rfl,λn a y Q E l bh bi=>zel K y Z Q E bh bi bm m q z⟩)
 have av:=V F;clear F am C K L H;go_enter func12,ntmps12;go_upto_region 2 with fail
 rw[<-av.q];go_wp2_with fail
 apply ak.m;rintro e ca⟨rfl,aw⟩;have aj:=V (ai.q ca aw);clear aw ai ak;go_wp2_with fail
 apply aj.m;rintro e ae⟨rfl,⟨b7,b8,P⟩,h⟩;clear aj;go_wp2_with fail
 apply h.m;rintro e cm⟨rfl,u⟩;clear h P;go_wp2;go_loopw [6,7,8,9,10,11,12] (λb5 ab _ _ _ _ _ wr=>∃(i n a:Nat),i<=k.length/\b5=.bool true/\ab=.int .i64 i/\n<=i/\a<=i+1/\U (Jr w (i+1) n a wr)) (λ_ ab _ _ _ _ _ _=>k.length-(intOf ab).toNat)
 case atStart=>
  obtain⟨a,aa,s⟩:=u.q;exact⟨0,0,a,Qt _,rfl,rfl,Qc _,aa,V s⟩
 case round=>
  obtain⟨i,n,a,bp,rfl,rfl,bt,aa,s⟩:=hrel;clear u;by_cases bs:i<k.length
  ·obtain⟨d,C⟩:∃d,k[i]?=some d:=⟨k[i],Qg bs⟩;obtain⟨b,j,rfl,a6,a7,a8,a9,ba,W⟩:=T.q wr (V (by obtain⟨_,_,_,_,R⟩:=s.q;exact R)) i d C;obtain⟨x,bc,bb,bd,ag⟩:=d;dsimp only at a6 a7 a8 a9 ba W;have cd:(0:Int)<=(i:Int):=Z;have ce:(i:Int)<(k.length:Int):=Z;obtain⟨l,G⟩:=Qzz (wr.alloc (.cells #[x,bc,bb,bd,ag] 59));have g:l.heap[wr.heap.size]?=some (.cells #[x,bc,bb,bd,ag] 59 (0,0)):=by rw[G];exact Ak _ _
   have t:=V (W n a s.q bt aa l (by rw[G];exact Sr.alloc (Qc _) _) g);have a0:=X g 0 _ rfl;have a1:=X g 1 _ rfl;have a2:=X g 2 _ rfl;have a3:=X g 3 _ rfl;have a4:=X g 4 _ rfl;have au:=V G;clear C T s W g G;go_upto_region 11 with fail
   rw[<-au.q];clear a6 a7 a8 a9 ba au av;by_cases bq:x=1
   ·subst bq;go_wp2_with (fail);refine t.q.beg.mono ?_;rintro e cb⟨rfl,m⟩;have h:=V (m.q.still Z Z);go_wp2_with (fail);apply h.m;rintro e a5⟨rfl,q⟩;go_wp2;go_roundw
    case rel=>exact⟨i+1,n,a,Z,rfl,by go_num,Z,Z,q⟩
    case measure=>exact Sj
   by_cases br:x=6
   ·subst br;go_upto_region 14 with fail
    go_cut [9] (λb6 f=>b6=.bool true/\U (Jr w (i+2) (n+1) a f/\f.cell? ⟨wr.heap.size,4,none⟩=some (.string ag)))
    case first=>
     go_region_with ((go_at_call 24;refine(t.q.tree _ (by repeat (first|exact Sr|refine Below.drew ?_))).mono ?_;rintro e cb⟨rfl,m⟩))
     all_goals (go_wp2;go_meet)
     all_goals exact⟨rfl,m⟩
    case rest=>
    obtain⟨rfl,m⟩:=hcut;have b1:=m.q.2;have an:=V (t.q.page _ m.q);clear a0 a1 a2 a3 a4;go_wp2_with (fail);apply an.m;rintro e a5⟨rfl,q⟩;have b3:=q.q.2;have al:=V (λcc=>t.q.head a5 cc q.q.1);clear b1 an m;go_upto_region 16 with fail
    go_cut [11] (λb4 f=>b4=.bool true/\U (Jr w (i+2) (n+1) (a+1) f))
    case first=>
     go_region_with ((go_at_call 30;refine(al.q _ (by repeat (first|exact Sr|refine Below.drew ?_))).mono ?_;rintro e cn⟨rfl,z⟩))
     all_goals (go_wp2;go_meet)
     all_goals exact⟨rfl,z⟩
    case rest=>
    obtain⟨rfl,z⟩:=hcut;have h:=V (z.q.still Z Z);clear b3 q al;go_wp2_with (fail);apply h.m;rintro e af⟨rfl,r⟩;go_wp2;go_roundw
    case rel=>exact⟨i+1,n+1,a+1,Z,rfl,by go_num,Z,Z,r⟩
    case measure=>exact Sj
   by_cases cf:2<=x
   ·by_cases cg:x<=7
    ·obtain⟨cl,b7,b8,ch,ci,P,ap,ar⟩:=t.q.step;have ao:=V ap;have aq:=V ar;clear ap ar;go_upto_region 19 with fail
     go_region_with ((first|(go_at_call 36;refine(ao.q _).mono ?_;rintro e o⟨b2,bu,rfl,rfl⟩)|(go_at_call 35;refine(aq.q b2 _ bu (by repeat (first|exact Sr|refine Below.drew ?_))).mono ?_;rintro e o⟨rfl,u⟩)))
     all_goals
      obtain⟨ac,cj,ah⟩:=u.q;have h:=V (ah.still Z Z);clear ah u P ao aq a0 a1 a2 a3 a4;go_wp2_with (fail);apply h.m;rintro e af⟨rfl,r⟩;go_wp2;go_roundw
      case rel=>exact⟨i+1,n,ac,Z,rfl,by go_num,Z,Z,r⟩
      case measure=>exact Sj
    have h:=V (t.q.non.still Z Z);go_wp2_with (fail);apply h.m;rintro e af⟨rfl,r⟩;go_wp2;go_roundw
    case rel=>exact⟨i+1,n,a,Z,rfl,by go_num,Z,Z,r⟩
    case measure=>exact Sj
   have h:=V (t.q.non.still Z Z);go_wp2_with (fail);apply h.m;rintro e af⟨rfl,r⟩;go_wp2;go_roundw
   case rel=>exact⟨i+1,n,a,Z,rfl,by go_num,Z,Z,r⟩
   case measure=>exact Sj
  obtain rfl:i=k.length:=Z;have bo:U (Below w w wr):=V (by obtain⟨_,_,_,_,R⟩:=s.q;exact R);clear s T;go_wp2;go_ret;exact⟨rfl,bo.q⟩
