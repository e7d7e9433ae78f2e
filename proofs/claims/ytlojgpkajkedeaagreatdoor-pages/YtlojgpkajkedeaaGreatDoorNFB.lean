import Derived.Test.YtlojgpkajkedeaaGreatDoorNF1
import Derived.Test.YtlojgpkajkedeaaGreatDoorNVD
import Derived.Test.YtlojgpkajkedeaaGreatDoorCards
import Derived.Test.YtlojgpkajkedeaaGreatDoorTie
set_option maxHeartbeats 16000000
set_option maxRecDepth 100000
namespace Go.Proofs.YtlojgpkajkedeaaGreatDoor.pagesCase
open Go.ChangeShapes Go.WideShapes Go.ChangeAt Go.RowKit Go.Lib
open Go.ChangeMaps (open_string shut_string)
theorem gPow : Tryz.prog.globalNamed "internal/strconv.uint64pow10" = some 5 := by kernel_rfl
theorem z5q:(Tryz.prog.globals[5]?).map (·.type)=some 298:=by kernel_rfl
theorem z3l:(Rows.laid_internal_strconv_uint64pow10:DataW Unit)=Lib.tabData .u64 Lib.pow10Tab:=by kernel_rfl
theorem z1y {W:World}(hL:laidMet Tryz.prog Rows.fencedRow.laid W)(hsh:W.ShapedOpen Tryz.prog):EnvP W.heap.size W:=by
 have hE:=z4z hL hsh;have h2 : laidMet Tryz.prog (("internal/strconv.uint64pow10", Rows.laid_internal_strconv_uint64pow10) :: Rows.fencedRow.laid.drop 3) W := hL.tail.tail;rw[z3l] at h2;have htab : Lib.TabIs Tryz.prog W "internal/strconv.uint64pow10" .u64 Lib.pow10Tab := Lib.tabIs_of_head gPow z5q Tryz.underlying298 Tryz.underlying97 (by kernel_rfl) (by kernel_rfl) h2;have hc:=htab.cell gPow 0 (by decide);exact⟨hE,⟨hE.2.2.1,hE.2.2.2⟩,htab,5,gPow,World.block_lt_of_cell? _ _ hc⟩
theorem contract (H:Type)(enc:TypeId × Value->H)(W:World)(base:Nat)(args:Array Value)(ds gs:List (DataW H))(before:List MemPlace)
  (hval:∀(j:Nat) t v,Tryz.f10.params[j]?=some t->args[j]?=some v->Value.okWide Tryz.prog W .any base t v)
  (hW:DataW.Whole enc Tryz.prog Tryz.f10.params.toList Rows.pagesSpec.vars false W args.toList ds gs before) (henv:EnvP W.heap.size W) :
  Calls Tryz.prog 10 args W λe W'=>∃v,e=.returned v/\Rows.pagesSpec.post enc Tryz.prog Tryz.f10 false true false false W args v W':=by
 have hW':=hW;obtain⟨p,q,bg,hV,rfl,hfz,hnd⟩:=hW;have hA:DataW.TrodAll enc Tryz.prog W 0 (λ_=>true) true Tryz.f10.params.toList args.toList ds p:=bg;rw[Tryz.params10] at hA hval;obtain⟨v0,dh,d0,ds0,p0,q0,hargs,rfl,rfl,h0,r0⟩:=trodAll_cons hA;obtain⟨rfl,rfl,rfl⟩:=trodAll_nil r0;obtain rfl:args = #[v0]:=by cases args;simp_all
 obtain⟨rfl,rfl⟩:=trodVars_none hV;obtain⟨s,rfl,rfl,rfl,hmax⟩:=open_string Tryz.underlying9 (hval 0 9 v0 rfl rfl) h0;clear bg;simp only[Qbk] at hW';refine(zqz s W henv).mono λe W' ⟨he,hg⟩=>?_;subst he;refine⟨_,rfl,_,_,_,[],[],[],hW',trodAll_cons_mk (shut_bool Tryz.underlying4 _) trodAll_mk0,trodAll_cons_mk (shut_string Tryz.underlying9 hmax) trodAll_mk0,rfl,hg.frame _,λh=>by cases h⟩
theorem reads (os:Os){H:Type}(enc:TypeId × Value->H):∃places,DataW.whole enc Tryz.prog ((zla os).forCall (λ_ _=>0) ⟨#[],#[.string ⟨#[]⟩],[]⟩).memory Tryz.f10.params.toList Rows.pagesSpec.vars false #[Value.string ⟨#[]⟩].toList 8=some ([.lit (.string [])],[],places):=
 ⟨[],by kernel_rfl⟩
theorem lifted (os:Os)(started:os.Started)(H:Type)(enc:TypeId × Value->H)(F:Stop.Interp):ReturnsInHanded {} Tryz.checked os 10 .any ((OpenSpec.ofChange Rows.pagesSpec).preRow enc Tryz.prog Tryz.f10 Rows.pagesRow.domain false Rows.pagesRow.laid) (((OpenSpec.ofChange Rows.pagesSpec).at F).post enc Tryz.prog Tryz.f10 false true false false):=by
 obtain⟨places,hx⟩:=reads os enc;refine returnsInHanded_of_row (C:=Tryz.checked) (s:=OpenSpec.ofChange Rows.pagesSpec) own started (by kernel_rfl) Tryz.func10
  (witness_row_atRef (enc:=enc) (C:=Tryz.checked) false (zla os) #[.string ⟨#[]⟩] rfl (by kernel_rfl) (by kernel_rfl) (by kernel_rfl)
   (OpenSpec.preRow_of_cond 8 hx (by kernel_rfl) (λk hk=>by cases hk) (by kernel_rfl) (z0w os _))) ?_
 intro W base args ds gs before hval hW _ _ _ hL hsh _;exact contract H enc W base args ds gs before hval hW (z1y hL hsh)
theorem zww:Tryz.prog.inPlace 10=Rows.pagesRow.inPlace:=by kernel_rfl
theorem zw2:Tryz.prog.unfollowed 10=Rows.pagesRow.unfollowed:=by kernel_rfl
theorem ztw:Tryz.prog.recurses 10=Rows.pagesRow.recurses:=by kernel_rfl
theorem zwx:Tryz.prog.varsNamed 10=Rows.pagesRow.named:=by kernel_rfl
theorem facts:joinedFacts Tryz.prog 10 Tryz.f10 (OpenSpec.ofChange Rows.pagesSpec).bare Rows.pagesRow=true:=by
 unfold joinedFacts;rw[zww,zw2,ztw,zwx];kernel_rfl
theorem said:Rows.PagesSaid:=
 OpenClaim.holds_of_cond 10 Tryz.f10 rfl rfl rfl rfl rfl rfl rfl ⟨rfl,rfl,rfl,rfl,rfl⟩ rfl rfl rfl rfl rfl (by kernel_rfl) Tryz.func10 facts
  (of_decide_eq_true (by kernel_rfl)) (by unfold Func.isWrapper;first|(rw[if_pos (by decide +kernel)];kernel_rfl)|(rw[if_neg (by decide +kernel)];exact⟨rfl,rfl⟩))
  (λos started H enc _ F=>by rw[OpenClaim.pre_eq_preRow];exact lifted os started H enc F)
theorem plain (f : FuncId)(fn : Func)(hf : Tryz.pinned.checked.prog.funcNamed "rubric/rubriclaw.Pages" = some f)(hfn : Tryz.pinned.checked.prog.funcs[f]? = some fn):true=Tryz.pinned.checked.prog.looks []/\∀(j:Nat) t,fn.params[j]?=some t->Tryz.pinned.checked.prog.wantsStandIn t=false:=by
 obtain rfl : f = 10 := Qy ((show Tryz.prog.funcNamed "rubric/rubriclaw.Pages" = some 10 by kernel_rfl).symm.trans hf) |>.symm;obtain rfl:fn=Tryz.f10:=(Qy (Tryz.func10.symm.trans hfn)).symm;refine⟨by kernel_rfl,λj t ht=>?_⟩;rw[Tryz.params10] at ht;have hm:t=9:=by simpa using Array.mem_of_getElem? ht
 subst hm;exact(show Tryz.prog.wantsStandIn 9=false by kernel_rfl)
end Go.Proofs.YtlojgpkajkedeaaGreatDoor.pagesCase
namespace Go.Proofs.YtlojgpkajkedeaaGreatDoor
theorem pages_card:Rows.PagesCardSaid:=
 Claim7.holds_tied_plain_at .later [] _ _ _ _ pagesCase.said (λ_ h=>by cases h) (by kernel_rfl) (λ_ h=>by cases h) pages_row_tie rfl ⟨rfl,rfl⟩ (by kernel_rfl) rfl pagesCase.plain (by kernel_rfl)
end Go.Proofs.YtlojgpkajkedeaaGreatDoor
