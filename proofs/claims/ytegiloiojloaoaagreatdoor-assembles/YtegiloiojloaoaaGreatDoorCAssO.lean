/- What is proved: striderlaw.Assembles returns true for every source, and leaves it as it was: Assemble's image, line and error are the document's own answer, whatever the source. The package-level tables hold what the program's text lays (the card ties them); no other condition. -/
import Derived.Test.YtegiloiojloaoaaGreatDoorCSpec
import Derived.Test.YtegiloiojloaoaaGreatDoorCAsmL
import Derived.Test.YtegiloiojloaoaaGreatDoorCTabsL
import Derived.ChangeMaps5
import Derived.Test.YtegiloiojloaoaaGreatDoorCards
import Derived.Test.YtegiloiojloaoaaGreatDoorTie
set_option linter.unusedVariables false
set_option linter.unusedSimpArgs false
set_option maxRecDepth 100000
namespace Go.Proofs.YtegiloiojloaoaaGreatDoor
open Go.ChangeShapes Go.WideShapes Go.ChangeAt Go.RowKit
theorem assembles_tabs {W:World} (h:laidMetH Tryz.prog Rows.assemblesRow.laid W):Tabs W:=by
 rw[MakeChecks.laidMetH_plain _ _ _ (by kernel_rfl)]at h
 exact tabs_of h (by simp[Rows.assemblesRow]) (by simp[Rows.assemblesRow]) (by simp[Rows.assemblesRow]) (by simp[Rows.assemblesRow]) (by simp[Rows.assemblesRow]) (by simp[Rows.assemblesRow]) (by simp[Rows.assemblesRow])
theorem assembles_contract (H:Type) (enc:TypeId×Value→H) (W:World) (base:Nat) (args:Array Value) (ds gs:List (DataW H)) (before:List MemPlace)
  (hval:∀(j:Nat) t v,Tryz.f3.params[j]? = some t→args[j]? = some v→Value.okWide Tryz.prog W .any base t v)
  (hW:DataW.Whole enc Tryz.prog Tryz.f3.params.toList Rows.assemblesSpec.vars false W args.toList ds gs before) (hL:laidMetH Tryz.prog Rows.assemblesRow.laid W) (hS:W.ShapedOpen Tryz.prog) :
  Calls Tryz.prog 3 args W fun e W'=>∃v,e=.returned v∧Rows.assemblesSpec.post enc Tryz.prog Tryz.f3 false true false false W args v W':=by
 have hW':=hW
 obtain⟨p,q,hA0,hV,rfl,_,_⟩:=hW
 have hA:DataW.TrodAll enc Tryz.prog W 0 (fun _=>true) true Tryz.f3.params.toList args.toList ds p:=hA0
 rw[Tryz.params3]at hA hval
 obtain⟨v0,d0,rfl,rfl,h0⟩:=trodAll_one hA
 obtain⟨rfl,rfl⟩:=trodVars_none hV
 have h0k:=h0
 obtain⟨s1,rfl,rfl,rfl,hs1⟩:=Go.ChangeMaps.open_string Tryz.underlying9 (hval 0 9 v0 rfl rfl) h0
 clear hA0
 simp only[List.append_nil]at hW'
 have hsl:s1.data.toList.length≤9223372036854775807:=by
  have e:s1.data.toList.length=s1.size:=by simp
  unfold maxLen at hs1
  omega
 have hC:=Assembles_c s1.data.toList W hsl (heap_vars hS) (assembles_tabs hL)
 rw[show bstr s1.data.toList=s1 from QZ (by simp)]at hC
 refine hC.mono fun e W' ⟨he,hb⟩=>?_
 subst he
 refine⟨_,rfl,⟨_,_,_,[],[],[],hW',?_,?_,rfl,hb.frame _,fun h=>by cases h⟩⟩
 ·exact trodAll_cons_mk (shut_bool Tryz.underlying4 _) trodAll_mk0
 ·exact trodAll_mk1 (Below.trod laidOut (by kernel_rfl) (of_decide_eq_true (by kernel_rfl)) h0k hb (fun x hx=>by cases hx))
theorem assembles_laid (os:Os):laidMet Tryz.prog Rows.assemblesRow.laid ((World.laidAll Tryz.prog os Rows.assemblesRow.laid).forCall (fun _ _=>0) ⟨#[],#[.string ⟨#[]⟩],[]⟩).memory:=
 laidMet_laidAll _ (by kernel_rfl) (by kernel_rfl)
theorem assembles_reads (os:Os) {H:Type} (enc:TypeId×Value→H):∃places,DataW.whole enc Tryz.prog ((World.laidAll Tryz.prog os Rows.assemblesRow.laid).forCall (fun _ _=>0) ⟨#[],#[.string ⟨#[]⟩],[]⟩).memory Tryz.f3.params.toList Rows.assemblesSpec.vars false #[Value.string ⟨#[]⟩].toList 8=some ([.lit (.string [])],[],places):=
 ⟨[],by kernel_rfl⟩
theorem assembles_lifted (os:Os) (started:os.Started) (H:Type) (enc:TypeId×Value→H) (F:Stop.Interp) :
  ReturnsInHanded {} Tryz.checked os 3 .any ((OpenSpec.ofChange Rows.assemblesSpec).preRow enc Tryz.prog Tryz.f3 Rows.assemblesRow.domain false Rows.assemblesRow.laid) (((OpenSpec.ofChange Rows.assemblesSpec).at F).post enc Tryz.prog Tryz.f3 false true false false):=by
 obtain⟨places,hx⟩:=assembles_reads os enc
 refine returnsInHanded_of_row (C:=Tryz.checked) (s:=OpenSpec.ofChange Rows.assemblesSpec) own started (by kernel_rfl) Tryz.func3
  (witness_row_at (enc:=enc) (C:=Tryz.checked) false (World.laidAll Tryz.prog os Rows.assemblesRow.laid) #[.string ⟨#[]⟩] (World.laidAll_os _ _ _) (by kernel_rfl) (by kernel_rfl) (by kernel_rfl)
   (OpenSpec.preRow_of_cond 8 hx (by kernel_rfl) (fun k hk=>by cases hk) (by kernel_rfl) (assembles_laid os))) ?_
 intro W base args ds gs before hval hW _ _ _ hL hS _
 exact assembles_contract H enc W base args ds gs before hval hW hL hS
theorem assembles_said:Rows.AssemblesSaid:=
 OpenClaim.holds_of_cond 3 Tryz.f3 rfl rfl rfl rfl rfl rfl rfl ⟨rfl,rfl,rfl,rfl,rfl⟩ rfl rfl rfl rfl rfl (by kernel_rfl) Tryz.func3 (by kernel_rfl)
  (of_decide_eq_true (by kernel_rfl)) (by unfold Func.isWrapper;first|(rw[if_pos (by decide +kernel)];kernel_rfl)|(rw[if_neg (by decide +kernel)];exact⟨rfl,rfl⟩))
  (fun os started H enc _ F=>by rw[OpenClaim.pre_eq_preRow];exact assembles_lifted os started H enc F)
theorem assembles_plain (f:FuncId) (fn:Func) (hf:Tryz.pinned.checked.prog.funcNamed "strider/striderlaw.Assembles"=some f) (hfn:Tryz.pinned.checked.prog.funcs[f]? = some fn) :
  false=Tryz.pinned.checked.prog.looks []∧∀(j:Nat) t,fn.params[j]? = some t→Tryz.pinned.checked.prog.wantsStandIn t=false:=by
 obtain rfl:f=3:=Option.some.inj ((show Tryz.prog.funcNamed "strider/striderlaw.Assembles"=some 3 by kernel_rfl).symm.trans hf) |>.symm
 obtain rfl:fn=Tryz.f3:=(Option.some.inj (Tryz.func3.symm.trans hfn)).symm
 refine⟨by kernel_rfl,fun j t ht=>?_⟩
 rw[Tryz.params3]at ht
 have:t=9:=by
  have:=Array.mem_of_getElem? ht
  simp at this
  exact this
 subst this
 exact(show Tryz.prog.wantsStandIn 9=false by kernel_rfl)
theorem assembles_card:Rows.AssemblesCardSaid:=
 Claim7.holds_tied_plain_at .later [] _ _ _ _ assembles_said (fun _ h=>by cases h) (by kernel_rfl) (fun _ h=>by cases h) assembles_row_tie rfl ⟨rfl,rfl⟩ (by kernel_rfl) rfl assembles_plain (by kernel_rfl)
end Go.Proofs.YtegiloiojloaoaaGreatDoor
