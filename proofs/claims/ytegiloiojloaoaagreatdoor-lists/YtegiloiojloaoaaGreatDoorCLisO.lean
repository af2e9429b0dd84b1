/- What is proved: striderlaw.Lists returns true for every three sources, and leaves them as they were: Names' list, line and error are the document's own answer, whatever the source, again and again, and what came out is the caller's alone. The package-level tables hold what the program's text lays (the card ties them); no other condition. -/
import Derived.Test.YtegiloiojloaoaaGreatDoorCSpec
import Derived.Test.YtegiloiojloaoaaGreatDoorCRef4L
import Derived.Test.YtegiloiojloaoaaGreatDoorCTabsL
import Derived.ChangeMaps5
import Derived.Test.YtegiloiojloaoaaGreatDoorCards
import Derived.Test.YtegiloiojloaoaaGreatDoorTie
set_option linter.unusedVariables false
set_option linter.unusedSimpArgs false
set_option maxRecDepth 100000
namespace Go.Proofs.YtegiloiojloaoaaGreatDoor
open Go.ChangeShapes Go.WideShapes Go.ChangeAt Go.RowKit
theorem lists_tabs {W:World} (h:laidMetH Tryz.prog Rows.listsRow.laid W):Tabs W:=by
 rw[MakeChecks.laidMetH_plain _ _ _ (by kernel_rfl)]at h
 exact tabs_of h (by simp[Rows.listsRow]) (by simp[Rows.listsRow]) (by simp[Rows.listsRow]) (by simp[Rows.listsRow]) (by simp[Rows.listsRow]) (by simp[Rows.listsRow]) (by simp[Rows.listsRow])
theorem lists_contract (H:Type) (enc:TypeId×Value→H) (W:World) (base:Nat) (args:Array Value) (ds gs:List (DataW H)) (before:List MemPlace)
  (hval:∀(j:Nat) t v,Tryz.f4.params[j]? = some t→args[j]? = some v→Value.okWide Tryz.prog W .any base t v)
  (hW:DataW.Whole enc Tryz.prog Tryz.f4.params.toList Rows.listsSpec.vars false W args.toList ds gs before) (hL:laidMetH Tryz.prog Rows.listsRow.laid W) (hS:W.ShapedOpen Tryz.prog) :
  Calls Tryz.prog 4 args W fun e W'=>∃v,e=.returned v∧Rows.listsSpec.post enc Tryz.prog Tryz.f4 false true false false W args v W':=by
 have hW':=hW
 obtain⟨p,q,hA0,hV,rfl,_,_⟩:=hW
 have hA:DataW.TrodAll enc Tryz.prog W 0 (fun _=>true) true Tryz.f4.params.toList args.toList ds p:=hA0
 rw[Tryz.params4]at hA hval
 obtain⟨v0,v1,v2,d0,d1,d2,p0,p1,p2,rfl,rfl,rfl,h0,h1,h2⟩:=trodAll_three hA
 obtain⟨rfl,rfl⟩:=trodVars_none hV
 have h0k:=h0
 have h1k:=h1
 have h2k:=h2
 obtain⟨s0,rfl,rfl,rfl,hs0⟩:=Go.ChangeMaps.open_string Tryz.underlying9 (hval 0 9 v0 rfl rfl) h0
 obtain⟨s1,rfl,rfl,rfl,hs1⟩:=Go.ChangeMaps.open_string Tryz.underlying9 (hval 1 9 v1 rfl rfl) h1
 obtain⟨s2,rfl,rfl,rfl,hs2⟩:=Go.ChangeMaps.open_string Tryz.underlying9 (hval 2 9 v2 rfl rfl) h2
 clear hA0
 simp only[List.append_nil,List.nil_append]at hW'
 have hsl:∀s:ByteArray,s.size≤maxLen→s.data.toList.length≤9223372036854775807:=fun s h=>by
  have e:s.data.toList.length=s.size:=by simp
  unfold maxLen at h
  omega
 have hC:=Lists_c s0.data.toList s1.data.toList s2.data.toList W (hsl s0 hs0) (hsl s1 hs1) (hsl s2 hs2) (heap_vars hS) (lists_tabs hL)
 rw[show bstr s0.data.toList=s0 from QZ (by simp),show bstr s1.data.toList=s1 from QZ (by simp),show bstr s2.data.toList=s2 from QZ (by simp)]at hC
 refine hC.mono fun e W' ⟨he,hb⟩=>?_
 subst he
 refine⟨_,rfl,⟨_,_,_,[],[],[],hW',?_,?_,rfl,hb.frame _,fun h=>by cases h⟩⟩
 ·exact trodAll_cons_mk (shut_bool Tryz.underlying4 _) trodAll_mk0
 ·exact trodAll_mk3 (Below.trod laidOut (by kernel_rfl) (of_decide_eq_true (by kernel_rfl)) h0k hb (fun x hx=>by cases hx)) (Below.trod laidOut (by kernel_rfl) (of_decide_eq_true (by kernel_rfl)) h1k hb (fun x hx=>by cases hx)) (Below.trod laidOut (by kernel_rfl) (of_decide_eq_true (by kernel_rfl)) h2k hb (fun x hx=>by cases hx))
theorem lists_laid (os:Os):laidMet Tryz.prog Rows.listsRow.laid ((World.laidAll Tryz.prog os Rows.listsRow.laid).forCall (fun _ _=>0) ⟨#[],#[.string ⟨#[]⟩,.string ⟨#[]⟩,.string ⟨#[]⟩],[]⟩).memory:=
 laidMet_laidAll _ (by kernel_rfl) (by kernel_rfl)
theorem lists_reads (os:Os) {H:Type} (enc:TypeId×Value→H):∃places,DataW.whole enc Tryz.prog ((World.laidAll Tryz.prog os Rows.listsRow.laid).forCall (fun _ _=>0) ⟨#[],#[.string ⟨#[]⟩,.string ⟨#[]⟩,.string ⟨#[]⟩],[]⟩).memory Tryz.f4.params.toList Rows.listsSpec.vars false #[Value.string ⟨#[]⟩,.string ⟨#[]⟩,.string ⟨#[]⟩].toList 8=some ([.lit (.string []),.lit (.string []),.lit (.string [])],[],places):=
 ⟨[],by kernel_rfl⟩
theorem lists_lifted (os:Os) (started:os.Started) (H:Type) (enc:TypeId×Value→H) (F:Stop.Interp) :
  ReturnsInHanded {} Tryz.checked os 4 .any ((OpenSpec.ofChange Rows.listsSpec).preRow enc Tryz.prog Tryz.f4 Rows.listsRow.domain false Rows.listsRow.laid) (((OpenSpec.ofChange Rows.listsSpec).at F).post enc Tryz.prog Tryz.f4 false true false false):=by
 obtain⟨places,hx⟩:=lists_reads os enc
 refine returnsInHanded_of_row (C:=Tryz.checked) (s:=OpenSpec.ofChange Rows.listsSpec) own started (by kernel_rfl) Tryz.func4
  (witness_row_at (enc:=enc) (C:=Tryz.checked) false (World.laidAll Tryz.prog os Rows.listsRow.laid) #[.string ⟨#[]⟩,.string ⟨#[]⟩,.string ⟨#[]⟩] (World.laidAll_os _ _ _) (by kernel_rfl) (by kernel_rfl) (by kernel_rfl)
   (OpenSpec.preRow_of_cond 8 hx (by kernel_rfl) (fun k hk=>by cases hk) (by kernel_rfl) (lists_laid os))) ?_
 intro W base args ds gs before hval hW _ _ _ hL hS _
 exact lists_contract H enc W base args ds gs before hval hW hL hS
theorem lists_said:Rows.ListsSaid:=
 OpenClaim.holds_of_cond 4 Tryz.f4 rfl rfl rfl rfl rfl rfl rfl ⟨rfl,rfl,rfl,rfl,rfl⟩ rfl rfl rfl rfl rfl (by kernel_rfl) Tryz.func4 (by kernel_rfl)
  (of_decide_eq_true (by kernel_rfl)) (by unfold Func.isWrapper;first|(rw[if_pos (by decide +kernel)];kernel_rfl)|(rw[if_neg (by decide +kernel)];exact⟨rfl,rfl⟩))
  (fun os started H enc _ F=>by rw[OpenClaim.pre_eq_preRow];exact lists_lifted os started H enc F)
theorem lists_plain (f:FuncId) (fn:Func) (hf:Tryz.pinned.checked.prog.funcNamed "strider/striderlaw.Lists"=some f) (hfn:Tryz.pinned.checked.prog.funcs[f]? = some fn) :
  false=Tryz.pinned.checked.prog.looks []∧∀(j:Nat) t,fn.params[j]? = some t→Tryz.pinned.checked.prog.wantsStandIn t=false:=by
 obtain rfl:f=4:=Option.some.inj ((show Tryz.prog.funcNamed "strider/striderlaw.Lists"=some 4 by kernel_rfl).symm.trans hf) |>.symm
 obtain rfl:fn=Tryz.f4:=(Option.some.inj (Tryz.func4.symm.trans hfn)).symm
 refine⟨by kernel_rfl,fun j t ht=>?_⟩
 rw[Tryz.params4]at ht
 have:t=9:=by
  have:=Array.mem_of_getElem? ht
  simp at this
  exact this
 subst this
 exact(show Tryz.prog.wantsStandIn 9=false by kernel_rfl)
theorem lists_card:Rows.ListsCardSaid:=
 Claim7.holds_tied_plain_at .later [] _ _ _ _ lists_said (fun _ h=>by cases h) (by kernel_rfl) (fun _ h=>by cases h) lists_row_tie rfl ⟨rfl,rfl⟩ (by kernel_rfl) rfl lists_plain (by kernel_rfl)
end Go.Proofs.YtegiloiojloaoaaGreatDoor
