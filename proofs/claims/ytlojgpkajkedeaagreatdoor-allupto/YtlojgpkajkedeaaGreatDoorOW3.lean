import Derived.Test.YtlojgpkajkedeaaGreatDoorOW1
import Derived.Test.YtlojgpkajkedeaaGreatDoorOShelfB
import Derived.RegionTactic
import Derived.ChangeAlike
set_option maxHeartbeats 0
set_option maxRecDepth 100000
namespace Go.Proofs.YtlojgpkajkedeaaGreatDoor
open Go.RowKit Go.Proofs.Tryz
theorem GY (s:Sb)(c:UInt8)(w:Sw):Calls prog 169 #[s,.int .u8 (c.toNat:Int)] w λe a=>∃d:Int,e=.returned d/\U (d<0↔c∉s.data.toList)/\a=w:=by
 refine(Tryz.strings_IndexByte s (c.toNat:Int) w).mono ?_;rintro e a⟨rfl,rfl⟩;exact⟨_,rfl,V (by rw[S.Xm];simp),rfl⟩
theorem RF (s:Sb)(c:UInt8)(w:Sw):Calls prog 170 #[s,.string ⟨#[c]⟩] w λe d=>∃a:Nat,e=.returned a/\U (a=s.data.toList.count c)/\a<=s.size/\d=w:=by
 refine(Tryz.strings_Count_one s c w).mono ?_;rintro e d⟨rfl,rfl⟩;exact⟨_,rfl,V rfl,by rw[<-S.lda];exact List.count_le_length,rfl⟩
theorem O9 (s:Sb)(w:Sw)(v:s.size<=maxLen):Calls prog 114 #[s] w λe p=>e=.returned (.bool (S.Ea s))/\p=w:=by
 unfold maxLen at v;go_enter func114,ntmps114;go_wp2_with fail
 refine(Lv _ _ (by unfold maxLen;omega)).mono ?_;rintro e p⟨a,rfl,j,A,rfl⟩;by_cases k:a.size=0
 ·have z:=S.Y9 a k;have f:U (S.Ea s=false):=V (S.zil _ (by rw[<-j.q];exact S.U1 a k));clear k;go_wp2;go_ret;exact⟨Dy f.q.symm,rfl⟩
 have h:0<a.size:=Z;have D:=S.K9 a h;clear k;go_wp2_with fail
 refine(GY _ a[0] _).mono ?_;rintro e q⟨l,rfl,o,rfl⟩;by_cases d:a[0]∈[(42:UInt8),45,95]
 ·have x:0<=l:=by have:=o.q;simp only[List.mem_cons]at d ⊢;by_cases g:l<0;exact absurd (by simpa using d) (by simpa using this.1 g);omega
  have f:U (S.Ea s=(decide (3<=a.data.toList.count a[0])&&decide (a.data.toList.count a[0]+a.data.toList.count 32=a.size))):=V (by
   rw[S.zn5 _ _ _ (by rw[<-j.q];exact S.Uu a h) d,<-j.q,S.lda])
  have t:U (a.data.toList.count a[0]+a.data.toList.count 32<=a.size):=V (by
   rw[<-S.lda];exact S.zm5 _ _ _ (by intro r;rw[r]at d;simp at d))
  clear d;go_wp2_with fail
  rw[S.KZ a h];refine(RF _ _ _).mono ?_;rintro e q⟨n,rfl,g,E,rfl⟩;by_cases m:3<=n
  ·go_wp2_with (fail);refine(RF _ 32 _).mono ?_;rintro e q⟨y,rfl,d,C,rfl⟩;have F:n+y<=a.size:=by rw[g.q,d.q];exact t.q
   go_wp2;go_ret;refine⟨Dy ?_,rfl⟩;rw[f.q,<-g.q,<-d.q,Sl m,Bool.true_and,SC,Sqb,Sd];omega
  have u:U (S.Ea s=false):=V (by rw[f.q,<-g.q,Si m,Bool.false_and]);go_wp2;go_ret;exact⟨Dy u.q.symm,rfl⟩
 have x:=o.q.2 (by simpa using d);have f:U (S.Ea s=false):=V (S.YO _ _ _ (by rw[<-j.q];exact S.Uu a h) d);clear d;go_wp2;go_ret;exact⟨Dy f.q.symm,rfl⟩
theorem Uk (s:Sb)(w:Sw)(g:s.size<=maxLen):Calls prog 119 #[s] w λe a=>e=.returned (.bool (S.Cz s))/\a=w:=by
 go_enter func119,ntmps119;go_wp2_with fail
 refine(Lv _ _ g).mono ?_;rintro e a⟨h,rfl,f,j,rfl⟩;have d:U (S.Cz s=Lib.hasPrefix h.data.toList [62]):=V (by unfold S.Cz;rw[f.q]);go_wp2_with fail
 refine(Tryz.strings_HasPrefix _ _ _).mono ?_;rintro e a⟨rfl,rfl⟩;go_wp2;go_ret;exact⟨Dy (by rw[d.q]),rfl⟩
theorem zib (s:Sb)(w:Sw)(j:s.size<=maxLen)(g:S.Aq s≠[]):Calls prog 177 #[s] w λe f=>∃a:Sb,e=.returned a/\U (a.data.toList=S.Kl s)/\a.size<=s.size/\f=w:=by
 go_enter func177,ntmps177;go_wp2_with fail
 refine(Lv _ _ j).mono ?_;rintro e f⟨a,rfl,h,l,rfl⟩;have m:1<=a.size:=by
  have:a.data.toList≠[]:=by rw[h.q];exact g
  rw[<-S.lda];exact Qbf.2 this
 have d:U (S.Kl s=Lib.trimPrefix (a.data.toList.drop 1) [32]):=V (by unfold S.Kl;rw[h.q]);have k:U ((S.Kl s).length<=s.size):=V (by
  rw[d.q];have:=Lib.trimPrefix_le (a.data.toList.drop 1) [32];rw[Qf,S.lda]at this;omega)
 clear g;go_wp2_with fail
 refine(Tryz.strings_TrimPrefix _ _ _).mono ?_;rintro e f⟨rfl,rfl⟩;go_wp2;go_ret;refine⟨_,rfl,V ?_,?_,rfl⟩;·rw[d.q,S.Tt,Qbj (by rw[List.length_tail,S.lda];omega),List.drop_one]
 rw[S.Pk,Qbj (by rw[List.length_tail,S.lda];omega),<-List.drop_one,<-d.q];exact k.q
theorem Yo (s:Sb)(c:UInt8)(f:c.toNat<128)(w:Sw)(g:s.size<=maxLen):Calls prog 173 #[s,.string ⟨#[c]⟩] w λe d=>∃a:Sb,e=.returned a/\U (a.data.toList=Lib.trimRightB s c)/\a.size<=s.size/\d=w:=by
 refine(Tryz.strings_TrimRight_one s c f w (by unfold maxLen at g;omega)).mono ?_;rintro e d⟨rfl,rfl⟩;exact⟨_,rfl,V (S.Tt _),by rw[S.Pk,<-S.lda];exact S.Po _ _,rfl⟩
theorem zgw (s:Sb)(c:UInt8)(f:c.toNat<128)(w:Sw)(g:s.size<=maxLen):Calls prog 172 #[s,.string ⟨#[c]⟩] w λe d=>∃a:Sb,e=.returned a/\U (a.data.toList=Lib.trimB s c)/\a.size<=s.size/\Below w w d:=by
 refine(Tryz.strings_Trim_one s c f w (by unfold maxLen at g;omega)).mono ?_;rintro e d⟨rfl,h⟩;refine⟨_,rfl,V (S.Tt _),by rw[S.Pk,<-S.lda];exact S.Ul _ _,?_⟩;rcases h with rfl|rfl
 ·exact Sr
 exact Sr.drew
theorem zay (s:Sb)(w:Sw)(v:s.size<=maxLen):Calls prog 116 #[s] w λe y=>∃d:Sb,e=.returned d/\U (d.data.toList=S.Fp s)/\d.size<=s.size/\Below w w y:=by
 have f:=v;unfold maxLen at v;go_enter func116,ntmps116;go_wp2_with fail
 refine(Lv _ _ f).mono ?_;rintro e y⟨d,rfl,F,A,rfl⟩;have K:S.cnt 35 d.data.toList<=d.size:=by have:=S.Gf 35 d.data.toList;rw[S.lda]at this;exact this
 go_wp2_with fail
 refine(Tf d 35 _ (Qj A f)).mono ?_;rintro e l⟨rfl,rfl⟩;go_wp2_with fail
 refine(zgw _ 32 J _ (by rw[Sqc];exact Qj Z f)).mono ?_;rintro e N⟨c,rfl,q,r,o⟩;have j:c.size<=s.size:=by rw[Sqc]at r;omega
 have z:U (c.data.toList=S.F3 s):=V (by rw[q.q,S.Iw];unfold S.F3;rw[F.q]);clear r q;go_wp2_with fail
 refine(Yo c 35 J _ (Qj j f)).mono ?_;rintro e l⟨a,rfl,D,t,rfl⟩;have m:U (S.Fp s=if a.data.toList.isEmpty=true\/Lib.hasSuffix a.data.toList [32]=true then Lib.trimRightB a 32 else c.data.toList):=V (by
  unfold S.Fp;rw[<-z.q,<-D.q])
 by_cases k:a.size=0
 ·have L:=S.Y9 a k;have h:U (S.Fp s=Lib.trimRightB a 32):=V (by rw[m.q,if_pos (.inl (by rw[S.U1 a k];rfl))]);clear k;go_wp2_with (go_at_call 173;refine(Yo a 32 J _ (Qj (Qj t j) f)).mono ?_;rintro e l⟨G,rfl,p,E,rfl⟩)
  go_ret;exact⟨_,rfl,V (by rw[h.q,p.q]),Z,o⟩
 have u:0<a.size:=Z;have C:=S.K9 a u;have M:=S.Np a u;clear k;go_wp2_with fail
 refine(Tryz.strings_HasSuffix _ _ _ Z).mono ?_;rintro e l⟨rfl,rfl⟩;generalize x:Lib.hasSuffix a _=H;cases H
 ·have h:U (S.Fp s=c.data.toList):=V (by
   rw[m.q,if_neg];rintro(g|g);·rw[<-Lib.toList_data,C]at g;simp at g
   rw[show ([32]:List UInt8)=(ByteArray.mk #[32]).data.toList from rfl,x]at g;simp at g)
  go_wp2;go_ret;exact⟨_,rfl,V h.q.symm,j,o⟩
 have h:U (S.Fp s=Lib.trimRightB a 32):=V (by rw[m.q,if_pos (.inr x)]);go_wp2_with (go_at_call 173;refine(Yo a 32 J _ (Qj (Qj t j) f)).mono ?_;rintro e l⟨G,rfl,p,E,rfl⟩)
 go_ret;exact⟨_,rfl,V (by rw[h.q,p.q]),Z,o⟩
theorem OP (c:UInt8)(d p:Int)(info s:Sb)(w:Sw)(j:s.size<=maxLen):Calls prog 176 #[.agg #[.int .u8 (c.toNat:Int),d,p,info],s] w λe k=>e=.returned (.bool (S.Jg c d s))/\Below w w k:=by
 have f:=j;unfold maxLen at j;go_enter func176,ntmps176;go_wp2_with fail
 refine(Lv _ _ f).mono ?_;rintro e k⟨a,rfl,o,m,rfl⟩;have r:S.cnt c a<=a.size:=by have:=S.Gf c a;rw[S.lda]at this;exact this
 have h:U (S.Jg c d s=(decide (d<=(S.cnt c a:Int))&&S.Ar (a.data.toList.drop (S.cnt c a)))):=V (by unfold S.Jg;rw[o.q]);go_wp2_with fail
 refine(Tf a c _ (Qj m f)).mono ?_;rintro e q⟨rfl,rfl⟩;by_cases g:d<=(S.cnt c a:Int)
 ·go_wp2_with fail
  refine(Jt _ _ (by rw[Sqc];exact Qj Z f)).mono ?_;rintro e q⟨rfl,rfl⟩;go_wp2;go_ret;exact⟨Dy (by rw[h.q,Sl g,Bool.true_and,Qbj (by rw[Qf,S.lda];omega)]),Sr.alloc (Qc _) _⟩
 have l:U (S.Jg c d s=false):=V (by rw[h.q,Si g,Bool.false_and]);go_wp2;go_ret;exact⟨Dy l.q.symm,Sr.alloc (Qc _) _⟩
def Env (w:Sw):Prop:=
 (∃a,w.cell? ⟨3,0,none⟩=some a/\(a=.nilIface\/∃g f,a=.iface g f))/\(∃d:Int,w.cell? ⟨0,0,none⟩=some (.int .i64 d))/\3<w.heap.size/\0<w.heap.size
theorem Env.below {w w':Sw}(f:Env w)(a:Below w w w'):Env w':=by
 obtain⟨⟨d,g,h⟩,⟨m,j⟩,k,l⟩:=f;have:=a.size;exact⟨⟨d,(a.cell (p:=⟨3,0,none⟩) k).trans g,h⟩,⟨m,(a.cell (p:=⟨0,0,none⟩) l).trans j⟩,Z,Z⟩
theorem VB (s:Sb)(w:Sw)(L:s.size<=maxLen):Calls prog 178 #[s] w λe M=>e=.returned (.int .i64 (S.Bh s:Nat))/\M=w:=by
 unfold maxLen at L;go_enter func178,ntmps178;go_wp2;go_loop [3] (λi=>∃a:Nat,a<=s.size/\i=.int .i64 a/\∀f,f<a->(s.data.toList[f]?.map S.I5)=some true) (λi=>s.size-(intOf i).toNat)
 case atStart=>exact⟨0,Qt _,rfl,by intro f G;omega⟩
 case round=>
  obtain⟨a,Q,rfl,l⟩:=hrel;by_cases H:a<s.size
  ·have p:=S.Bz s a H;cases hd:S.I5 s[a]
   ·have d:=V (S.TD _ a l (by rw[p,Sq,hd];simp));have v:(s[a].toNat:Int)<48\/(57:Int)<s[a].toNat:=by
     simp only[S.I5,Bool.and_eq_false_iff,decide_eq_false_iff_not]at hd;omega
    have z:=V p;clear l p hd;by_cases u:6<a
    ·have q:U (S.Bh s=0):=V (S.LC _ (by rw[d.q];exact u));have h:((a:Int) == 0)=false:=(by rw[Qe];omega);rcases v with k|k
     all_goals
      go_wp2;go_ret;exact⟨Bu (by rw[q.q];rfl),rfl⟩
    have C:((a:Int) == (s.size:Int))=false:=(by rw[Qe];omega);have fin:∀(g:Int) (x:List UInt8),x=S.Iz a->(g<0↔s[a]∉x)->(S.Bh s:Int)=if g<0 then 0 else (a:Int)+1:=by
     intro g x D m;by_cases t:s[a]∈S.Iz a
     ·rw[if_neg (by rw[m,D];simpa using t),S.VT _ s[a] (by rw[d.q];exact u) (by rw[d.q];exact z.q) (by rw[d.q];exact t),d.q];rfl
     rw[if_pos (by rw[m,D];exact t),S.JA _ s[a] (by rw[d.q];exact z.q) (by rw[d.q];exact t)];rfl
    have y:=V fin;clear fin;by_cases h:a=0
    ·subst h;have R:((0:Int) == (s.size:Int))=false:=(by rw[Qe];omega);clear C;rcases v with k|k
     all_goals
      go_wp2_with (fail);refine(GY _ s[0] _).mono ?_;rintro e N⟨g,rfl,m,rfl⟩;have o:=V (y.q g _ rfl m.q);by_cases r:g<0
      ·have j:U ((S.Bh s:Int)=0):=V (by rw[o.q,if_pos r]);go_wp2;go_ret;exact⟨Bu j.q.symm,rfl⟩
      have j:U ((S.Bh s:Int)=1):=V (by rw[o.q,if_neg r];rfl);go_wp2;go_ret;exact⟨Bu j.q.symm,rfl⟩
    have A:((a:Int) == 0)=false:=(by rw[Qe];omega);have K:U (S.Iz a=[46,41]):=V (by unfold S.Iz;rw[if_neg h]);clear h;rcases v with k|k
    all_goals
     go_wp2_with (fail);refine(GY _ s[a] _).mono ?_;rintro e N⟨g,rfl,m,rfl⟩;have o:=V (y.q g _ K.q.symm m.q);by_cases r:g<0
     ·have j:U ((S.Bh s:Int)=0):=V (by rw[o.q,if_pos r]);go_wp2;go_ret;exact⟨Bu j.q.symm,rfl⟩
     have j:U ((S.Bh s:Int)=(a:Int)+1):=V (by rw[o.q,if_neg r]);go_wp2;go_ret;exact⟨Bu j.q.symm,rfl⟩
   have E:U (∀f,f<a+1->(s.data.toList[f]?.map S.I5)=some true):=by
    intro f G;by_cases e:f=a
    ·subst e;rw[p,Sq,hd]
    exact l f Z
   have F:(48:Int)<=s[a].toNat/\(s[a].toNat:Int)<=57:=by
    simp only[S.I5,Bool.and_eq_true,decide_eq_true_eq]at hd;omega
   obtain⟨k,P⟩:=F;clear l p hd;go_wp2;exact⟨⟨a+1,Z,by go_num,E.q⟩,by simp[intOf];omega⟩
  have d:=V (S.TD _ a l (by rw[Qr (by rw[S.lda];omega)];simp));have q:U (S.Bh s=0):=V (S.KE _ (by rw[d.q,S.lda];omega));have C:((a:Int) == (s.size:Int))=true:=by rw[Sqb];omega
  clear l;by_cases u:6<a
  ·have h:((a:Int) == 0)=false:=by rw[Qe];omega
   go_wp2;go_ret;exact⟨Bu (by rw[q.q];rfl),rfl⟩
  by_cases h:a=0
  ·have A:((a:Int) == 0)=true:=by rw[Sqb];omega
   clear h;go_wp2;go_ret;exact⟨Bu (by rw[q.q];rfl),rfl⟩
  have A:((a:Int) == 0)=false:=by rw[Qe];omega
  clear h;go_wp2;go_ret;exact⟨Bu (by rw[q.q];rfl),rfl⟩
theorem zgt (s:Sb)(w:Sw)(H:1<=s.size)(A:s.size<=7)(hd:∀y∈s.data.toList.take (s.size-1),S.I5 y=true)(p:Env w):Calls prog 179 #[s] w λe v=>e=.returned (.int .i64 (S.Al (s.data.toList.take (s.size-1))))/\Below w w v:=by
 obtain⟨a,f⟩:∃a,s.size=a+1:=⟨s.size-1,Z⟩;have t:(s.extract 0 a).size=a:=by rw[Sqc];omega
 have l:U ((s.extract 0 a).data.toList=s.data.toList.take (s.size-1)):=V (by rw[S.Za,f];rfl);have K:((s.size:Int)-1)=(a:Int):=Z;by_cases g:a=0
 ·have h:U (S.Al (s.data.toList.take (s.size-1)) = -1):=V (by rw[f,g];rfl);obtain⟨⟨m,q,r⟩,_⟩:=p;subst g;have d:Lib.atoiAll (s.extract 0 0).data.toList=.«syntax»:=by rw[S.Za];rfl
  have C:=V d;clear d hd t l;have L:s.size=1:=Z;go_enter func179,ntmps179;go_wp2_with fail
  refine(Tryz.strconv_Atoi_syntax ByteArray.empty J rfl m _ q r).mono ?_;rintro e x⟨z,rfl,D,E,j⟩;go_wp2;go_ret;exact⟨Bu h.q.symm,j⟩
 have k:(s.data.toList.take (s.size-1))≠[]:=by
  intro o;have:=congrArg List.length o;rw[Ql,S.lda]at this;simp at this;omega
 have h:U (S.Al (s.data.toList.take (s.size-1))=(S.dec (s.data.toList.take (s.size-1)):Int)):=V (by unfold S.Al;rw[if_neg k]);have d:U (Lib.atoi (s.extract 0 a).data.toList=some (S.dec (s.data.toList.take (s.size-1)):Int)):=V (by
  rw[l.q];exact S.zhe _ k hd)
 have F:=V f;have G:a<s.size:=Z;clear f hd k g;go_enter func179,ntmps179;go_wp2_with fail
 refine(Tryz.strconv_Atoi _ _ (by rw[Sqc];omega) d.q _).mono ?_;rintro e x⟨rfl,u,rfl⟩;have j:=Lib.bytesWorld_below w 5 u;go_wp2;go_ret;exact⟨Bu h.q.symm,j⟩
theorem zn0 (kind Al Ao:Int)(empty:Bool)(w:Sw):Calls prog 222 #[.agg #[.int .u8 kind,Al,Ao,empty]] w λe g=>e=.returned (.bool (!empty&&(Al == -1||Al == 1)))/\Below w w g:=by
 cases empty
 ·by_cases a:Al = -1
  ·have f:(Al == -1)=true:=by simp[a]
   have d:U ((!false&&(Al == -1||Al == 1))=true):=V (by simp[a]);clear a;go_enter func222,ntmps222;go_wp2;go_ret;exact⟨Dy d.q.symm,Sr.alloc (Qc _) _⟩
  have f:(Al == -1)=false:=by simp[a]
  have d:U ((Al == 1)=(!false&&(Al == -1||Al == 1))):=V (by simp[a]);clear a;go_enter func222,ntmps222;go_wp2;go_ret;exact⟨Dy d.q,Sr.alloc (Qc _) _⟩
 have d:U ((!true&&(Al == -1||Al == 1))=false):=V Y;go_enter func222,ntmps222;go_wp2;go_ret;exact⟨Dy d.q.symm,Sr.alloc (Qc _) _⟩
theorem NI (s:Sb)(w:Sw)(m:s.size<=maxLen)(f:∀c o,S.Aq s=c::o->c≠96/\c≠126):Calls prog 117 #[s] w λe j=>e=.returned (.tuple #[.agg #[.int .u8 0,O,O,()],false])/\Below w w j:=by
 go_enter func117,ntmps117;go_wp2_with fail
 refine(Lv _ _ m).mono ?_;rintro e j⟨a,rfl,l,t,rfl⟩;by_cases g:a.size=0
 ·have r:=S.Y9 a g;clear g f;go_wp2;exact Sqk (v:=.tuple #[.agg #[.int .u8 0,O,O,()],false]) (by simp[results,results117,go_sem]) rfl ⟨rfl,Sr.alloc (Qc _) _⟩
 have h:0<a.size:=Z;have u:=S.K9 a h;have d:=f a[0] _ (by rw[<-l.q];exact S.Uu a h);have p:((a[0].toNat:Int) != 96)=true:=by rw[bne_iff_ne];intro k;exact d.1 (Qk.1 (by simp;omega))
 have q:((a[0].toNat:Int) != 126)=true:=by rw[bne_iff_ne];intro k;exact d.2 (Qk.1 (by simp;omega))
 clear g f d;go_wp2;exact Sqk (v:=.tuple #[.agg #[.int .u8 0,O,O,()],false]) (by simp[results,results117,go_sem]) rfl ⟨rfl,Sr.alloc (Qc _) _⟩
