import Derived.Test.YtlojgpkajkedeaaGreatDoorNW7
import Derived.RegionTactic
import Derived.Deep.QuietTactic
import Derived.BigQuiet
set_option maxHeartbeats 16000000
set_option maxRecDepth 100000
namespace Go.Proofs.YtlojgpkajkedeaaGreatDoor
open Go.RowKit Go.Proofs.Tryz
namespace S
def letter (b:UInt8):Bool:=(decide (97<=b.toNat)&&decide (b.toNat<=122))||(decide (65<=b.toNat)&&decide (b.toNat<=90))
def mark (b:UInt8):Bool:=((decide (32<b.toNat)&&decide (b.toNat<=126))&&!letter b)&&(decide (b.toNat<48)||decide (57<b.toNat))
def escapes (l:List UInt8):Bool:=match l[1]? with
 | some b=>mark b
 | none=>false
def same:List UInt8->Nat
 | []=>0
 | c::r=>cnt c (c::r)
theorem zqi (l:List UInt8)(c:UInt8):(Lib.trimLeftB l c).length+cnt c l=l.length:=by
 unfold Lib.trimLeftB;induction l with
 | nil=>rfl
 | cons x r ih=>
  by_cases h:x=c
  ·subst h;simp[cnt];omega
  ·simp[cnt,h]
end S
theorem zkd (b:UInt8)(w:World):Calls prog 232 #[.int .u8 (b.toNat:Int)] w λe w'=>e=.returned (.bool (S.letter b))/\w=w':=by
 obtain⟨n,hn⟩:=Qyy (b.toNat);have hL:Hid (S.letter b=((decide (97<=n)&&decide (n<=122))||(decide (65<=n)&&decide (n<=90)))):=hid (by unfold S.letter;rw[hn]);rw[hn,hL.out];clear hn hL;by_cases h1:97<=n<;>by_cases h2:n<=122<;>by_cases h3:65<=n<;>by_cases h4:n<=90
 all_goals (first|omega|(
  go_enter func232,ntmps232;go_wp2;go_ret;exact⟨zb1 (by simp[h1,h2,h3,h4]<;>omega),rfl⟩))
theorem zns (b:UInt8)(w:World):Calls prog 205 #[.int .u8 (b.toNat:Int)] w λe w'=>e=.returned (.bool (S.mark b))/\w=w':=by
 have bg:=hid (λwx=>zkd b wx);obtain⟨n,hn⟩:=Qyy (b.toNat);obtain⟨lt,hlt⟩:=Qyy (S.letter b);have hL:Hid (S.mark b=(((decide (32<n)&&decide (n<=126))&&!lt)&&(decide (n<48)||decide (57<n)))):=hid (by unfold S.mark;rw[hn,hlt]);rw[hn,hlt] at bg;rw[hn,hL.out];clear hn hL hlt;by_cases h1:32<n<;>by_cases h2:n<=126<;>cases lt<;>by_cases h3:n<48<;>by_cases h4:57<n
 all_goals (first|omega|(
  go_enter func205,ntmps205;go_wp2_with (go_at_call 232;refine(bg.out _).mono ?_;rintro e w'⟨rfl,rfl⟩)
  go_ret;exact⟨zb1 (by simp[h1,h2,h3,h4]<;>omega),rfl⟩))
theorem zru (s:ByteArray)(w:World)(hs:s.size<=maxLen):Calls prog 160 #[.string s] w λe w'=>e=.returned (.bool (S.escapes s.data.toList))/\w=w':=by
 unfold maxLen at hs;by_cases h1:1<s.size
 ·have hg:=S.zad s 1 h1;have hM:=hid (λwx=>zns s[1] wx);have hE:Hid (S.escapes s.data.toList=S.mark s[1]):=hid (by unfold S.escapes;rw[hg]);clear hg;go_enter func160,ntmps160;go_wp2_with (go_at_call 205;refine(hM.out _).mono ?_;rintro e w'⟨rfl,rfl⟩)
  go_ret;exact⟨zb1 hE.out.symm,rfl⟩
 ·have hE:Hid (S.escapes s.data.toList=false):=hid (by unfold S.escapes;rw[Qr (by rw[S.lda];omega)]);go_enter func160,ntmps160;go_wp2;go_ret;exact⟨zb1 hE.out.symm,rfl⟩
theorem zex (s:ByteArray)(w:World)(hs:s.size<=maxLen)(h0:0<s.size)(hc:s[0].toNat<128):Calls prog 153 #[.string s] w λe w'=>e=.returned (.int .i64 (S.same s.data.toList:Nat))/\w=w':=by
 unfold maxLen at hs;have hd:=S.zfy s h0;have hsame:S.same s.data.toList=S.cnt s[0] s.data.toList:=by rw[hd];rfl
 have hx:s.extract 0 1=⟨#[s[0]]⟩:=S.zm7 s h0;have hT:Hid (Calls prog 197 #[.string s,.string (s.extract 0 1)] w λe w'=>e=.returned (.string ⟨(Lib.trimLeftB s.data.toList s[0]).toArray⟩)/\w=w'):=hid (by
  rw[hx];exact(Tryz.strings_TrimLeft_one s s[0] hc w).mono (λe w' ⟨h1,h2⟩=>⟨h1,h2.symm⟩))
 have hl:=S.zqi s.data.toList s[0];rw[S.lda] at hl;have hsz:(⟨(Lib.trimLeftB s.data.toList s[0]).toArray⟩:ByteArray).size=(Lib.trimLeftB s.data.toList s[0]).length:=S.zhb _;have hfin:Hid ((s.size:Int)-((Lib.trimLeftB s.data.toList s[0]).length:Int)=(S.same s.data.toList:Nat)):=hid (by rw[hsame];omega);have hle:(Lib.trimLeftB s.data.toList s[0]).length<=s.size:=by omega
 clear hd hsame hx hl;go_enter func153,ntmps153;go_wp2_with fail
 refine hT.out.mono ?_;rintro e w'⟨rfl,rfl⟩;go_wp2;go_ret;exact⟨zak (by rw[<-hfin.out]),rfl⟩
namespace S
def zb5 (others:List UInt8):List UInt8->Nat
 | []=>0
 | b::r=>if 32<b.toNat/\b ∉ others then zb5 others r+1 else 0
theorem zic (o:List UInt8)(l:List UInt8):zb5 o l<=l.length:=by
 induction l with
 | nil=>simp[zb5]
 | cons b r ih=>simp only[zb5,Qd];split<;>omega
theorem zdo (o:List UInt8)(l:List UInt8)(k:Nat)(h:∀j,j<k->∃b,l[j]?=some b/\32<b.toNat/\b ∉ o)(he:∀b,l[k]?=some b->¬(32<b.toNat/\b ∉ o)):zb5 o l=k:=by
 induction l generalizing k with
 | nil=>cases k with
  | zero=>rfl
  | succ k=>obtain⟨b,hb,_⟩:=h 0 (by omega);simp at hb
 | cons x r ih=>cases k with
  | zero=>have:=he x rfl;simp only[zb5];rw[if_neg this]
  | succ k=>
   obtain⟨b,hb,hb2⟩:=h 0 (by omega);simp at hb;subst hb;have:=ih k (λj hj=>by have:=h (j+1) (by omega);simpa using this) (λb hb=>he b (by simpa using hb));simp only[zb5];rw[if_pos hb2,this]
def letters:List UInt8->Nat
 | []=>0
 | b::r=>if letter b=true then letters r+1 else 0
theorem znn (l:List UInt8):letters l<=l.length:=by
 induction l with
 | nil=>simp[letters]
 | cons b r ih=>simp only[letters,Qd];split<;>omega
theorem zk4 (l:List UInt8)(k:Nat)(h:∀j,j<k->(l[j]?.map letter)=some true)(he:(l[k]?.map letter)≠some true):letters l=k:=by
 induction l generalizing k with
 | nil=>cases k with
  | zero=>rfl
  | succ k=>have:=h 0 (by omega);simp at this
 | cons x r ih=>cases k with
  | zero=>simp at he;simp[letters,he]
  | succ k=>
   have h0:=h 0 (by omega);simp at h0;have:=ih k (λj hj=>by have:=h (j+1) (by omega);simpa using this) (by simpa using he);simp[letters,this,h0]
def side (l:List UInt8)(k:Int):Int:=if k<0\/k=l.length then 0 else match l[k.toNat]? with
 | some b=>if b=32\/b=10 then 0 else if mark b=true then 1 else 2
 | none=>0
def leans (f b:Int):Bool:=decide (f≠0)&&(decide (f≠1)||decide (b≠2))
def zc0 (l:List UInt8)(k n:Nat):Bool:=
 if l[k]?=some 42 then leans (side l ((k+n:Nat):Int)) (side l ((k:Int)-1))
 else leans (side l ((k+n:Nat):Int)) (side l ((k:Int)-1))&&(!leans (side l ((k:Int)-1)) (side l ((k+n:Nat):Int))||decide (side l ((k:Int)-1)=1))
def zbg (l:List UInt8)(k n:Nat):Bool:=
 if l[k]?=some 42 then leans (side l ((k:Int)-1)) (side l ((k+n:Nat):Int))
 else leans (side l ((k:Int)-1)) (side l ((k+n:Nat):Int))&&(!leans (side l ((k+n:Nat):Int)) (side l ((k:Int)-1))||decide (side l ((k+n:Nat):Int)=1))
theorem zhg (l:List UInt8)(k:Int):side l k=0\/side l k=1\/side l k=2:=by
 unfold side;split
 ·exact .inl rfl
 ·split
  ·split
   ·exact .inl rfl
   ·split
    ·exact .inr (.inl rfl)
    ·exact .inr (.inr rfl)
  ·exact .inl rfl
def fits (oz:Nat)(oc:Bool)(sz:Nat)(so:Bool):Bool:=
 if oc=false/\so=false then true else (decide (oz % 3=0)&&decide (sz % 3=0))||decide ((oz+sz) % 3≠0)
end S
theorem zh0 (s o:ByteArray)(w:World)(hs:s.size<=maxLen):Calls prog 233 #[.string s,.string o] w λe w'=>e=.returned (.int .i64 (S.zb5 o.data.toList s.data.toList:Nat))/\w=w':=by
 unfold maxLen at hs;go_enter func233,ntmps233;go_wp2;go_loop [5] (λi=>∃k:Nat,k<=s.size/\i=.int .i64 k/\Hid (∀j,j<k->∃b,s.data.toList[j]?=some b/\32<b.toNat/\b ∉ o.data.toList)) (λi=>s.size-(intOf i).toNat)
 case atStart=>exact⟨0,Qt _,rfl,hid (λj hj=>by omega)⟩
 case round=>
  obtain⟨k,hk,rfl,hall⟩:=hrel;by_cases hlt:k<s.size
  ·have hg:=S.zad s k hlt;have hI:Hid (Calls prog 169 #[.string o,.int .u8 (s[k].toNat:Int)] w λe w'=>e=.returned (.int .i64 (Lib.indexByte o.data.toList s[k]))/\w=w'):=hid (by
    have:=Tryz.strings_IndexByte o (s[k].toNat:Int) w;simp only[Int.toNat_natCast] at this;have e:s[k].toNat.toUInt8=s[k]:=(by simp);rw[e] at this;exact this.mono (λe w' ⟨h1,h2⟩=>⟨h1,h2.symm⟩))
   have hneg:=S.zf0 o.data.toList s[k];have bg:=hid hneg;have dw:=hid hg;clear hneg hg;by_cases h1:32<s[k].toNat
   ·by_cases h2:Lib.indexByte o.data.toList s[k]<0
    ·have dh:Hid (∀j,j<k+1->∃b,s.data.toList[j]?=some b/\32<b.toNat/\b ∉ o.data.toList):=hid (λj hj=>by
      by_cases e:j=k
      ·subst e;exact⟨_,dw.out,h1,bg.out.1 h2⟩
      ·exact hall.out j (by omega))
     go_wp2_with (go_at_call 169;refine hI.out.mono ?_;rintro e w'⟨rfl,rfl⟩)
     go_round
     case rel=>exact⟨k+1,by omega,by go_num,dh⟩
     case measure=>simp[intOf];omega
    ·have hfin:Hid (S.zb5 o.data.toList s.data.toList=k):=hid (S.zdo _ _ k hall.out (λb hb hc=>by
      rw[dw.out] at hb;cases hb;exact h2 (bg.out.2 hc.2)))
     have h2':¬(Lib.indexByte o.data.toList s[k]<0):=h2;go_wp2_with (go_at_call 169;refine hI.out.mono ?_;rintro e w'⟨rfl,rfl⟩)
     go_ret;exact⟨zak (by rw[hfin.out]),rfl⟩
   ·have hfin:Hid (S.zb5 o.data.toList s.data.toList=k):=hid (S.zdo _ _ k hall.out (λb hb hc=>by
     rw[dw.out] at hb;cases hb;exact h1 hc.1))
    go_wp2;go_ret;exact⟨zak (by rw[hfin.out]),rfl⟩
  ·have hfin:Hid (S.zb5 o.data.toList s.data.toList=k):=hid (S.zdo _ _ k hall.out (λb hb=>by
    rw[Qr (by rw[S.lda];omega)] at hb;cases hb))
   go_wp2;go_ret;exact⟨zak (by rw[hfin.out]),rfl⟩
theorem znx (s:ByteArray)(k:Int)(w:World)(h1 : -1<=k)(h2:k<=s.size):Calls prog 234 #[.string s,.int .i64 k] w λe w'=>e=.returned (.int .i64 (S.side s.data.toList k))/\w=w':=by
 by_cases h0:k<0
 ·have hS:Hid (S.side s.data.toList k=0):=hid (by unfold S.side;rw[if_pos (.inl h0)]);go_enter func234,ntmps234;go_wp2;go_ret;exact⟨zak hS.out.symm,rfl⟩
 ·obtain⟨n,rfl⟩:∃n:Nat,k=n:=⟨k.toNat,by omega⟩;by_cases hn:n=s.size
  ·have hS:Hid (S.side s.data.toList (n:Int)=0):=hid (by unfold S.side;rw[if_pos (.inr (by rw[S.lda];omega))]);subst hn;go_enter func234,ntmps234;go_wp2;go_ret;exact⟨zak hS.out.symm,rfl⟩
  ·have hlt:n<s.size:=by omega
   have hg:=S.zad s n hlt;have hM:=hid (λwx=>zns s[n] wx);have hS:Hid (S.side s.data.toList (n:Int)=if s[n]=32\/s[n]=10 then 0 else if S.mark s[n]=true then 1 else 2):=hid (by
    unfold S.side;rw[if_neg (by rw[S.lda];omega),Int.toNat_natCast,hg])
   have hne:((n:Int) == (s.size:Int))=false:=by rw[Qe];omega
   clear hg;by_cases hx:s[n]=32
   ·have hxn:s[n].toNat=32:=(by rw[hx];rfl);have hS2:Hid (S.side s.data.toList (n:Int)=0):=hid (by rw[hS.out,if_pos (.inl hx)]);clear hx;go_enter func234,ntmps234;go_wp2;go_ret;exact⟨zak hS2.out.symm,rfl⟩
   ·have hxb:(((s[n].toNat:Nat):Int) == 32)=false:=by
     rw[Qe];intro e;exact hx (Qk.1 (by show s[n].toNat=32;omega))
    by_cases hy:s[n]=10
    ·have hyn:s[n].toNat=10:=(by rw[hy];rfl);have hS2:Hid (S.side s.data.toList (n:Int)=0):=hid (by rw[hS.out,if_pos (.inr hy)]);clear hx hy hxb;go_enter func234,ntmps234;go_wp2;go_ret;exact⟨zak hS2.out.symm,rfl⟩
    ·have hyb:(((s[n].toNat:Nat):Int) == 10)=false:=by
      rw[Qe];intro e;exact hy (Qk.1 (by show s[n].toNat=10;omega))
     have dh:Hid (S.side s.data.toList (n:Int)=if S.mark s[n]=true then 1 else 2):=hid (by rw[hS.out,if_neg (by rintro(h|h);exact hx h;exact hy h)])
     clear hx hy;cases hm:S.mark s[n]
     ·rw[hm] at hM;have bg:Hid (S.side s.data.toList (n:Int)=2):=hid (by rw[dh.out,hm];rfl);clear hm;go_enter func234,ntmps234;go_wp2_with (go_at_call 205;refine(hM.out _).mono ?_;rintro e w'⟨rfl,rfl⟩)
      go_ret;exact⟨zak bg.out.symm,rfl⟩
     ·rw[hm] at hM;have bg:Hid (S.side s.data.toList (n:Int)=1):=hid (by rw[dh.out,hm];rfl);clear hm;go_enter func234,ntmps234;go_wp2_with (go_at_call 205;refine(hM.out _).mono ?_;rintro e w'⟨rfl,rfl⟩)
      go_ret;exact⟨zak bg.out.symm,rfl⟩
theorem zmh (f b:Int)(w:World)(hf:f=0\/f=1\/f=2)(hb:b=0\/b=1\/b=2):Calls prog 235 #[.int .i64 f,.int .i64 b] w λe w'=>e=.returned (.bool (S.leans f b))/\w=w':=by
 rcases hf with rfl|rfl|rfl<;>rcases hb with rfl|rfl|rfl <;>
 ·go_enter func235,ntmps235;go_wp2;go_ret;exact⟨zb1 rfl,rfl⟩
end Go.Proofs.YtlojgpkajkedeaaGreatDoor
