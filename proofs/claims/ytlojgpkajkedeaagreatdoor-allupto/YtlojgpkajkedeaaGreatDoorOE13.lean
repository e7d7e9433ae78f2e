import Derived.Test.YtlojgpkajkedeaaGreatDoorOE11
set_option maxHeartbeats 0
set_option maxRecDepth 100000
namespace Go.Proofs.YtlojgpkajkedeaaGreatDoor
open Go.RowKit Go.Proofs.Tryz
def Ld (a:Sb)(k n:Nat):Pt:=.mk 8 [] ((a.data.toList.drop k).take n) [] n (S.I9 a k n) (S.I7 a k n)
theorem znu (C:Nat)(a:Sb)(L k n:Nat)(K:List Mem)(am:List Bj)(an:So)(ao:Nat)(A:Nat->Prop)(w:Sw)(p:Cut C a L k K am an ao A w)(aq:k<a.size)(ay:a[k].toNat<128)(a0:S.same (a.data.toList.drop k)=n)(ar:k+n<=a.size):Calls prog 157 #[.pointer (some C)] w λe f=>∃y z,e=.returned (.tuple #[])/\w.heap.size<=y/\w.heap.size<=z/\Cut C a (k+n) (k+n) ((K++F6 a L k y)++[⟨z,Ld a k n,none,none⟩]) am an ao A f/\Fr (C::Ad K) w f:=by
 have E:=p.lt;have N:=p.cells;have a1:=p.small;have a3:=X N 0 _ rfl;have a4:=X N 2 _ rfl;have ab:=V (λ(g:Sw) (G:g.heap[C]?=w.heap[C]?)=>Nf C a L k _ _ _ g (G.trans N) (Sm aq));have a2:(a.extract k a.size).size=a.size-k:=Y;have az:U (∀g,Calls prog 153 #[.string (a.extract k a.size)] g λe f=>e=.returned n/\g=f):=V (λg=>by
  have:=Xi (a.extract k a.size) g (by rw[a2];simp[maxLen];omega) Z (by rw[ByteArray.getElem_extract];simpa using ay);rw[Gw,a0]at this;exact this)
 have av:U (∀b,w.heap.size<=b->b∉C::Ad K):=V (λb j P=>by
  rcases Sc.1 P with P|P
  ·omega
  have:=p.ch.mlt _ P;omega)
 have ai:=V (λg=>zll a k n g a1 aq ar);have a7:=V p;have D:=V (λ(g:Sw) (j:Below w w g)=>Vu C a L k n K am an ao A (Ld a k n) none none g (p.below j) ar (by simp[Ld,Pt.text];omega) (by simp[Ld,Pt.rs];omega) .nil);have aw:Kc (Ld a k n) none none=.agg #[(8:Int),(),.string ((a.extract k a.size).extract 0 n),.pointer none,.pointer none,n,.bool (S.I9 a k n),.bool (S.I7 a k n)]:=by
  have:S.B ((a.data.toList.drop k).take n)=(a.extract k a.size).extract 0 n:=by rw[<-S.El ((a.extract k a.size).extract 0 n),Kr,Gw];simp
  simp only[Kc,Ld,Pt.kind,Pt.info,Pt.text,Pt.rs,Pt.ro,Pt.rc,this];rfl
 rw[aw]at D;clear p N aw;have a8:(0:Int)<=(n:Int):=Z;have a9:(n:Int)<=((a.extract k a.size).size:Int):=Z;have ba:(n:Int)<=((a.size-k:Nat):Int):=Z;have bb:n<=a.size-k:=Z;generalize S.I9 a k n=ro at ai D;generalize S.I7 a k n=rc at ai D;go_enter func157,ntmps157;go_wp2_with fail
 refine(ab.q w rfl).mono ?_;rintro e f⟨rfl,rfl⟩;go_wp2_with fail
 refine(az.q _).mono ?_;rintro e f⟨rfl,rfl⟩;go_wp2_with fail
 have R:w.drew.cell? C=some (.string a):=a3;have T:w.drew.cell? (C 2)=some (.int .i64 (k:Nat)):=a4;have bc:¬w.heap.size=C:=Z;have bd:¬C=w.heap.size:=Z;go_region_held3 (λf=>f.cell? C=some (.string a)/\f.cell? (C 2)=some (.int .i64 (k:Nat)))
  ((refine⟨?_,?_⟩<;>(first|assumption|go_keep)))
  ((go_at_call 202;refine(ai.q _).mono ?_;rintro e o⟨rfl,q⟩;obtain⟨M,ap⟩:=Na q;have v:o.cell? C=some (.string a):=(M _ _ (by first|exact E|(simp;omega))).trans (by first|exact R|(have:=R;go_keep));have x:o.cell? (C 2)=some (.int .i64 (k:Nat)):=(M _ _ (by first|exact E|(simp;omega))).trans (by first|exact T|(have:=T;go_keep));have aj:=q.size;have Q:w<=o.heap.size:=Qj (by first|exact Qc _|simp) aj;have au:¬o.heap.size=C:=(Nat.ne_of_gt (Qh E Q))))
 ·obtain⟨d,l⟩:=Qzz (o.alloc (.cells #[n,ro,rc] 175));have m:Below w w d:=by rw[l];exact(((Below.refl _ w).drew.drew).trans q).alloc Q _
  obtain⟨b,j⟩:=Qzz (o.heap.size);have h:d.heap[b]?=some (.cells #[n,ro,rc] 175 (0,0)):=by rw[l,j];exact Ak _ _
  rw[<-l,<-j];have af:w<=b:=Z;clear M ap q v x aj Q au l j;have s:=X h 0 _ rfl;have t:=X h 1 _ rfl;have u:=X h 2 _ rfl;have ae:b<d:=(Qq.1 h).1;have ac:=V (ab.q d.drew (m.block C E));have aa:=V (D.q d.drew.drew m.drew.drew);clear h R T;go_wp2_with fail
  go_region_held3 (λf=>f.cell? ⟨b,0,none⟩=some (.int .i64 (n:Nat))/\f.cell? ⟨b,1,none⟩=some (.bool ro)/\f.cell? ⟨b,2,none⟩=some (.bool rc))
   ((refine⟨?_,?_,?_⟩<;>(first|assumption|with_reducible exact s|with_reducible exact t|with_reducible exact u)))
   (first|(go_at_call 154;apply ac.m;rintro e f⟨rfl,rfl⟩;have v:d.drew.drew.cell? ⟨b,0,none⟩=some (.int .i64 (n:Nat)):=s;have ak:d.drew.drew.cell? ⟨b,1,none⟩=some (.bool ro):=t;have x:d.drew.drew.cell? ⟨b,2,none⟩=some (.bool rc):=u)|(go_at_call 162;apply aa.m;rintro e a5⟨y,z,rfl,ag,ah,W,F⟩;have r:=λ(al:Nat)=>Uj (F.block b ae (av.q b af)) al;have v:=(r 0).trans s;have ak:=(r 1).trans t;have x:=(r 2).trans u))
  go_end0;have H:=m.size;exact⟨y,z,rfl,Qj H ag,Qj H ah,W,((Fr.Ra m).drew.drew).trans F (λa6 G=>.inl G)⟩
 obtain⟨d,l⟩:=Qzz ((((o.setCell w (.int .i64 (n:Nat))).setCell (w 1) (.bool ro)).setCell (w 2) (.bool rc)));have m:Below w w d:=by rw[l];exact((((((Below.refl _ w).alloc (Qc _) _).drew.drew).trans (q.mono Y)).setCell (Qc _) _).setCell (Qc _) _).setCell (Qc _) _
 obtain⟨b,j⟩:=Qzz (w.heap.size);have h:d.heap[b]?=some (.cells #[n,ro,rc] 175 (0,0)):=by
  rw[l,j];have ax:o.heap[w.heap.size]?=some (.cells #[O,false,false] 175 (0,0)):=by
   rw[q.block _ Y];exact Ak _ _
  exact Aj (Aj (Aj ax 0 _) 1 _) 2 _
 rw[<-l,<-j];have af:w<=b:=Z;clear M ap q v x aj Q au l j;have s:=X h 0 _ rfl;have t:=X h 1 _ rfl;have u:=X h 2 _ rfl;have ae:b<d:=(Qq.1 h).1;have ac:=V (ab.q d.drew (m.block C E));have aa:=V (D.q d.drew.drew m.drew.drew);clear h R T;go_wp2_with fail
 go_region_held3 (λf=>f.cell? ⟨b,0,none⟩=some (.int .i64 (n:Nat))/\f.cell? ⟨b,1,none⟩=some (.bool ro)/\f.cell? ⟨b,2,none⟩=some (.bool rc))
  ((refine⟨?_,?_,?_⟩<;>(first|assumption|with_reducible exact s|with_reducible exact t|with_reducible exact u)))
  (first|(go_at_call 154;apply ac.m;rintro e f⟨rfl,rfl⟩;have v:d.drew.drew.cell? ⟨b,0,none⟩=some (.int .i64 (n:Nat)):=s;have ak:d.drew.drew.cell? ⟨b,1,none⟩=some (.bool ro):=t;have x:d.drew.drew.cell? ⟨b,2,none⟩=some (.bool rc):=u)|(go_at_call 162;apply aa.m;rintro e a5⟨y,z,rfl,ag,ah,W,F⟩;have r:=λ(al:Nat)=>Uj (F.block b ae (av.q b af)) al;have v:=(r 0).trans s;have ak:=(r 1).trans t;have x:=(r 2).trans u))
 go_end0;have H:=m.size;exact⟨y,z,rfl,Qj H ag,Qj H ah,W,((Fr.Ra m).drew.drew).trans F (λa6 G=>.inl G)⟩
theorem S.BJ (l:List UInt8):(S.Ip l).length<=l.length:=by
 have a:=S.TY (l.length+1) l;have d:=S.VU l;unfold S.Ip;simp only;split
 ·rw[Ql,Qf];omega
 omega
def Me (a:Sb)(k n e:Nat):Pt:=.mk 11 [] (S.Ip ((a.data.toList.drop (k+n)).take (e-n))) [] 0 false false
theorem ze3 (C:Nat)(a:Sb)(f k n:Nat)(h j l:Value)(w:Sw)(g:w.heap[C]?=some (.cells [.string a,.int .i64 (f:Nat),.int .i64 (k:Nat),h,j,l].toArray 168 (0,0)))(u:a.size<=1000000)(q:k<a.size)(m:1<=n)(t:k+n<=a.size)(r:S.Ji (a.data.toList.drop k) n=none):Calls prog 155 #[.pointer (some C),n] w λe d=>e=.returned false/\Below w w d:=by
 have o:=V (Nf C a f k h j l w g (Sm q));have v:(a.extract k a.size).size=a.size-k:=Y;have p:=V (λs=>OZ (a.extract k a.size) n s Z Z m none (by rw[Gw];exact r));clear g;go_enter func155,ntmps155;go_wp2_with fail
 apply o.m;rintro e d⟨rfl,rfl⟩;go_wp2_with fail
 refine(p.q _).mono ?_;rintro e d⟨rfl,rfl⟩;simp only[Option.map_none,Option.getD_none,Option.isSome_none];go_wp2;go_ret;exact⟨rfl,Sr.drew⟩
theorem zko (C:Nat)(a:Sb)(m k n v:Nat)(s:List Mem)(x:List Bj)(y:So)(z:Nat)(A:Nat->Prop)(w:Sw)(l:Cut C a m k s x y z A w)(af:k<a.size)(T:1<=n)(am:k+n<=a.size)(ai:S.Ji (a.data.toList.drop k) n=some v)(an:n<=v)(ap:k+v+n<=a.size)(ae:Env w):Calls prog 155 #[.pointer (some C),n] w λe j=>∃q r,e=.returned true/\w.heap.size<=q/\w.heap.size<=r/\Cut C a (k+(v+n)) (k+(v+n)) ((s++F6 a m k q)++[⟨r,Me a k n v,none,none⟩]) x y z A j/\Fr (C::Ad s) w j:=by
 have al:=l.lt;have M:=l.cells;have ao:=l.small;have aa:=V (Nf C a m k _ _ _ w M (Sm af));have aq:(a.extract k a.size).size=a.size-k:=Y;have G:=V (λd=>OZ (a.extract k a.size) n d Z Z T (some v) (by rw[Gw];exact ai));obtain⟨g,p⟩:=Qyy ((a.extract k a.size).extract n v);have L:g.data.toList=(a.data.toList.drop (k+n)).take (v-n):=by rw[<-p,Kr,Gw,Qbb]
 have ak:g.size=v-n:=by rw[<-p];simp;omega
 have ab:U (∀d,Calls prog 198 #[.string (a.extract k a.size),n] d λe j=>e=.returned (.tuple #[g,true])/\d=j):=V (λd=>by have:=G.q d;simp only[Option.map_some,Option.getD_some,Option.isSome_some,p]at this;exact this);have ac:=V (λ(d:Sw) (u:Below w w d)=>zh5 g d Z (ae.below u));have E:=V (λ(d:Sw) (o:Below w w d) (f:Sb) (h:f.data.toList=S.Ip g)=>Vu C a m k (v+n) s x y z A (Me a k n v) none none d (l.below o) Z (by simp only[Me,Pt.text];have:=S.BJ ((a.data.toList.drop (k+n)).take (v-n));rw[Ql]at this;omega) (by simp[Me,Pt.rs]) .nil);have P:∀f:Sb,f.data.toList=S.Ip g->Kc (Me a k n v) none none=.agg #[(11:Int),(),f,.pointer none,.pointer none,O,false,false]:=λf h=>by
  have:S.B (S.Ip ((a.data.toList.drop (k+n)).take (v-n)))=f:=by rw[<-L,<-h,S.El]
  simp only[Kc,Me,Pt.kind,Pt.info,Pt.text,Pt.rs,Pt.ro,Pt.rc,this];rfl
 have W:U (∀(d:Sw) (o:Below w w d) (f:Sb) (h:f.data.toList=S.Ip g),_):=V (λd o f h=>by have:=E.q d o f h;rw[P f h]at this;exact this);clear l M E P G L p;have aj:(g.size:Int)=(v:Int)-(n:Int):=Z;go_enter func155,ntmps155;go_wp2_with fail
 apply aa.m;rintro e j⟨rfl,rfl⟩;go_wp2_with fail
 refine(ab.q _).mono ?_;rintro e j⟨rfl,rfl⟩;go_wp2_with fail
 refine(ac.q _ Sr.drew).mono ?_;rintro e R⟨f,rfl,h,t⟩;have F:=V (W.q R ((Below.refl _ w).drew.trans t) f h.q);rw[show ((v+n:Nat):Int)=((v-n:Nat):Int)+2*(n:Int) by omega]at F;have K:=V t;clear t;go_wp2_with fail
 apply F.m;rintro e ar⟨q,r,rfl,ag,ah,D,N⟩;have H:=V (And.intro D N);clear D N;go_wp2;go_ret;have Q:=K.q.size;exact⟨q,r,rfl,Qj Q ag,Qj Q ah,H.q.1,(Fr.Ra ((Below.refl _ w).drew.trans K.q)).trans H.q.2 (λau u=>.inl u)⟩
def M5 (t:List UInt8):Pt:=.mk 12 t [] [Db t] 0 false false
theorem zdn (j:Nat)(p:Pt)(t kl:So)(w:Sw)(i0 s:Int)(u x:Sb)(m o:So)(q r:Bool)(P:Kc p t kl=.agg #[i0,u,x,.pointer m,.pointer o,s,q,r])(T:Nat)(y:w.heap[j]?=some (.cells #[i0,u,x,.pointer m,.pointer o,s,q,r] T (0,0))):Calls prog 201 #[.slice (some j) 1 1] w λe G=>∃a,e=.returned (.agg #[.pointer (some ⟨a,0,none⟩),.pointer (some ⟨a,0,none⟩)])/\w.heap.size<=a/\a<G.heap.size/\U (G.heap[a]?=some (.cells (Jc ⟨a,p,t,kl⟩ none none).toArray 179 (0,0)))/\Below w w G:=by
 have ah:j<w:=(Qq.1 y).1;obtain⟨f,h⟩:=Qzz ((w.alloc (.cells #[.pointer none,.pointer none] 135)).alloc (.cells #[.pointer none,.pointer none] 135));have E:∀aa,(w.alloc aa).heap.size=(w:Nat)+1:=by intro aa;simp
 have Q:f.heap.size=(w:Nat)+2:=by rw[h];simp
 have C:Below w w f:=by rw[h];exact(Sr.alloc (Qc _) _).alloc Y _
 have d:f.heap[j]?=some (.cells #[i0,u,x,.pointer m,.pointer o,s,q,r] T (0,0)):=(C.block j ah).trans y;have H:Ch f ((w:Nat)+1) 0 135 [.pointer none,.pointer none] []:=⟨trivial,⟨by rw[h,<-E];exact Ak _ _,Y⟩,List.nodup_nil,by simp[Ad]⟩;have z:=V (λ(ac:Sw) (af:Ch ac ((w:Nat)+1) 0 135 [.pointer none,.pointer none] [])=>BF ((w:Nat)+1) 0 135 [.pointer none,.pointer none] [] p t kl ac af);rw[P]at z;have aw:=X d 0 _ rfl;have ax:=X d 1 _ rfl;have ay:=X d 2 _ rfl;have az:=X d 3 _ rfl;have a0:=X d 4 _ rfl;have a1:=X d 5 _ rfl;have a2:=X d 6 _ rfl;have a3:=X d 7 _ rfl;have ag:=V (z.q (f.alloc (.cells #[i0,u,x,.pointer m,.pointer o,s,q,r] 177)) (H.move (λao F=>Sqj _ _ _ (by simp[Ad]at F;omega))));have aj:=V C;have ai:U (f.heap[w.heap.size]?=some (.cells #[.pointer none,.pointer none] 135 (0,0))):=V (by rw[h,Sqj _ _ _ (by rw[E];omega)];exact Ak _ _);have l:=V Q;clear H d y P z C Q;go_enter func201,ntmps201;go_wp2_with fail
 rw[<-h];clear h E;go_loopg [8] 1 (λW ab wr=>(W=1/\ab=.int .i64 0/\wr=f)\/(W=0/\ab=.int .i64 1/\∃a,w.heap.size<a/\Ch wr ((w:Nat)+1) 0 135 [.pointer none,.pointer none] [⟨a,p,t,kl⟩]/\Below w w wr/\wr.heap[w.heap.size]?=some (.cells #[.pointer none,.pointer none] 135 (0,0))))
 case atStart=>exact .inl ⟨rfl,rfl,rfl⟩
 case round=>
  rcases hrel with ⟨rfl,rfl,rfl⟩|⟨rfl,rfl,a,am,A,L,k⟩
  ·go_wp2_with (fail);apply ag.m;rintro e a4⟨rfl,K,M,R⟩;have g:=V (And.intro K (And.intro M R));clear K M R;go_wp2;go_roundg 0
   case rel=>
    refine .inr ⟨rfl,rfl,_,?_,g.q.1,?_,?_⟩;·have:=l.q;simp;omega
    ·have ak:=g.q.2.1.below (B:=w.heap.size) (by have:=l.q;simp;omega) (λao F=>by simp[Ad]at F;omega);exact(aj.q.alloc (by have:=l.q;omega) _).trans ak
    rw[g.q.2.1.block _ (by have:=l.q;simp;omega) (by simp[Ad]),Sqj _ _ _ (by have:=l.q;omega)];exact ai.q
   case measure=>simp
  have g:=V (And.intro A L);have D:=A.hdr.1;have au:wr.cell? (((w:Nat)+1) 0)=some (.pointer (some ⟨a,0,none⟩)):=X D 0 _ rfl;have av:wr.cell? (((w:Nat)+1) 1)=some (.pointer (some ⟨a,0,none⟩)):=X D 1 _ rfl;have ap:=X k 0 _ rfl;have aq:=X k 1 _ rfl;have a5:=Av k;have ar:=V k;clear A L D k;go_wp2;have an:a≠w.heap.size:=Z;have N:a<wr:=g.q.1.mlt a (by simp[Ad]);refine Sqk (v:=.agg #[.pointer (some ⟨a,0,none⟩),.pointer (some ⟨a,0,none⟩)]) (by simp[results,results201,go_sem,ap,aq]) rfl ⟨a,rfl,Sm am,by simp;exact N,V ?_,(g.q.2.setCell (Qc _) _).setCell (Qc _) _⟩;have ae:=g.q.1.seg.1;have al:Fr [w.heap.size] wr ((wr.setCell w (.pointer (some ⟨a,0,none⟩))).setCell (w 1) (.pointer (some ⟨a,0,none⟩))):=(((Fr.refl _ wr).setCell _ (.inl Y) _).setCell _ (.inl Y) _);rw[al.block a N (by simp[an])];exact ae
theorem zl4 (C:Nat)(d:Sb)(q k n:Nat)(v:List Mem)(F:List Bj)(G:So)(H:Nat)(A:Nat->Prop)(w:Sw)(p:Cut C d q k v F G H A w)(ar:k<d.size)(az:S.Eb (d.data.toList.drop k)=true)(ac:(S.Gv (d.data.toList.drop k)).length=n)(au:k+(n+2)<=d.size):Calls prog 156 #[.pointer (some C)] w λe m=>∃t u a,e=.returned true/\w.heap.size<=t/\w.heap.size<=u/\w.heap.size<=a/\Cut C d (k+(n+2)) (k+(n+2)) ((v++F6 d q k t)++[⟨u,M5 (S.Gv (d.data.toList.drop k)),some ⟨a,0,none⟩,some ⟨a,0,none⟩⟩]) F G H (λl=>A l\/l=a) m/\Fr (C::Ad v) w m:=by
 have a1:=p.lt;have aa:=p.cells;have a3:=p.small;have ao:=V (Nf C d q k _ _ _ w aa (Sm ar));have a4:(d.extract k d.size).size=d.size-k:=Y;obtain⟨j,D⟩:=Qyy (S.Gv (d.data.toList.drop k));rw[D]at ac ⊢;have al:U (∀f,Calls prog 200 #[.string (d.extract k d.size)] f λe m=>∃g:Sb,e=.returned (.tuple #[g,true])/\U (g.data.toList=j)/\Below f.heap.size f m):=V (λf=>by
  have:=MF (d.extract k d.size) f Z Z;rw[Gw,az,D]at this;exact this.mono (λe m ⟨g,L,M,ak⟩=>⟨g,L,V (M.q rfl),ak⟩))
 have am:=V (λ(f:Sw) (a:Nat) (L:w<=a) (M:a<f.heap.size) (h:f.heap[a]?=some (.cells (Jc ⟨a,Db j,none,none⟩ none none).toArray 179 (0,0))) (aq:Below w w f)=>
  Vu C d q k (n+2) v F G H (λl=>A l\/l=a) (M5 j) (some ⟨a,0,none⟩) (some ⟨a,0,none⟩) f (p.more aq (λl h=>.inl h) (λl h=>by rcases h with h|h;exact .inl h;exact .inr ⟨Z,Z⟩)) au (by simp[M5,Pt.text]) (by simp[M5,Pt.rs])
   (Ce.cons ⟨a,Db j,none,none⟩ none none [] (.inr rfl) h .nil .nil))
 clear p aa D;go_enter func156,ntmps156;go_wp2_with fail
 apply ao.m;rintro e m⟨rfl,rfl⟩;go_wp2_with fail
 refine(al.q _).mono ?_;rintro e x⟨g,rfl,ae,s⟩;have a2:g.size=n:=by rw[<-S.lda,ae.q];exact ac
 have af:S.B j=g:=by rw[<-ae.q,S.El]
 have Q:=V (λ(f:Sw) (K:Nat) (ap:f.heap[K]?=some (.cells #[(8:Int),(),g,.pointer none,.pointer none,O,false,false] 177 (0,0)))=>zdn K (Db j) none none f 8 0 ⟨#[]⟩ g none none false false (by rw[<-af];rfl) _ ap);obtain⟨o,r⟩:=Qzz (((x.alloc (.cells #[(8:Int),(),g,.pointer none,.pointer none,O,false,false] 177)).alloc (.cells #[(8:Int),(),g,.pointer none,.pointer none,O,false,false] 177)));have ag:∀aj,(x.alloc aj).heap.size=(x:Nat)+1:=by intro aj;simp
 have R:Below w w o:=by rw[r];exact((((Below.refl _ w).drew).trans s).alloc s.size _).alloc (by have:=s.size;simp;exact Nat.le_succ_of_le this) _
 have an:=V (Q.q o ((x:Nat)+1) (by rw[r,<-ag];exact Ak _ _));have z:=V R;clear R s Q ag;go_wp2_with fail
 rw[<-r];clear r;apply an.m;rintro e a0⟨a,rfl,ax,ay,ah,y⟩;have E:=z.q.size;have P:=V (am.q a0 a Z ay ah.q (z.q.trans (y.mono E)));rw[show Kc (M5 j) (some ⟨a,0,none⟩) (some ⟨a,0,none⟩)=.agg #[(12:Int),g,(),.pointer (some ⟨a,0,none⟩),.pointer (some ⟨a,0,none⟩),O,false,false] by rw[<-af];rfl,show ((n+2:Nat):Int)=(n:Int)+2 by omega]at P;have W:=V (z.q.trans (y.mono E));clear y ah;go_wp2_with fail
 apply P.m;rintro e a5⟨t,u,rfl,av,aw,N,ab⟩;have T:=V (And.intro N ab);clear N ab;go_wp2;go_ret;have ai:=W.q.size;exact⟨t,u,a,rfl,Qj ai av,Qj ai aw,Qj E ax,T.q.1,(Fr.Ra W.q).trans T.q.2 (λl h=>.inl h)⟩
theorem zfi (C:Nat)(a:Sb)(h k:Nat)(u v x:Value)(w:Sw)(j:w.heap[C]?=some (.cells [.string a,.int .i64 (h:Nat),.int .i64 (k:Nat),u,v,x].toArray 168 (0,0)))(z:a.size<=1000000)(s:k<a.size)(t:S.Eb (a.data.toList.drop k)=false):Calls prog 156 #[.pointer (some C)] w λe d=>e=.returned false/\Below w w d:=by
 have q:=V (Nf C a h k _ _ _ w j (Sm s));have A:(a.extract k a.size).size=a.size-k:=Y;have p:U (∀f,Calls prog 200 #[.string (a.extract k a.size)] f λe d=>∃g:Sb,e=.returned (.tuple #[g,false])/\Below f.heap.size f d):=V (λf=>by
  have:=MF (a.extract k a.size) f Z Z;rw[Gw,t]at this;exact this.mono (λe d ⟨g,m,y,o⟩=>⟨g,m,o⟩))
 clear j;go_enter func156,ntmps156;go_wp2_with fail
 apply q.m;rintro e d⟨rfl,rfl⟩;go_wp2_with fail
 refine(p.q _).mono ?_;rintro e D⟨g,rfl,l⟩;have r:=V l;clear l;go_wp2;go_ret;exact⟨rfl,(Below.refl _ w).drew.trans r.q⟩
