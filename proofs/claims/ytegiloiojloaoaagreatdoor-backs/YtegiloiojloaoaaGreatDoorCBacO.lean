/- What is proved: striderlaw.Backs returns true for every number and every string, and leaves them as they were: Disassemble's text and error are the document's own answer, whatever the image. The package-level tables hold what the program's text lays (the card ties them); no other condition. -/
import Derived.Test.YtegiloiojloaoaaGreatDoorCSpec
import Derived.Test.YtegiloiojloaoaaGreatDoorCRef4B
import Derived.Test.YtegiloiojloaoaaGreatDoorCTabsL
import Derived.ChangeMaps5
import Derived.Test.YtegiloiojloaoaaGreatDoorCards
import Derived.Test.YtegiloiojloaoaaGreatDoorTie
set_option linter.unusedVariables false
set_option linter.unusedSimpArgs false
set_option maxRecDepth 100000
namespace Go.Proofs.YtegiloiojloaoaaGreatDoor
open Go.ChangeShapes Go.WideShapes Go.ChangeAt Go.RowKit
theorem backs_tabs {W:World} (h:laidMetH Tryz.prog Rows.backsRow.laid W):TabsX false W:=by
 rw[MakeChecks.laidMetH_plain _ _ _ (by kernel_rfl)]at h
 exact tabs_five h (by simp[Rows.backsRow]) (by simp[Rows.backsRow]) (by simp[Rows.backsRow]) (by simp[Rows.backsRow]) (by simp[Rows.backsRow])
theorem backs_p10 {W:World} (h:laidMetH Tryz.prog Rows.backsRow.laid W):P10 W:=by
 rw[MakeChecks.laidMetH_plain _ _ _ (by kernel_rfl)]at h
 obtain⟨g,t,cs,fuel,p,hg,ht,hv,hd⟩:=Lib.laidMet.reads h (n := "internal/strconv.uint64pow10") (d:=Lib.tabData .u64 Lib.pow10Tab) (by
  have:(Lib.tabData .u64 Lib.pow10Tab:DataW Unit)=Rows.laid_internal_strconv_uint64pow10:=by kernel_rfl
  rw[this];simp[Rows.backsRow])
 obtain rfl:t=249:=by
  rw[show Tryz.prog.globalNamed "internal/strconv.uint64pow10"=some 5 by kernel_rfl]at hg
  cases hg
  exact Option.some.inj (ht.symm.trans (by kernel_rfl))
 unfold P10 Lib.TabIs
 rw[hv,←Lib.cells_of_tab (n:=20) (e:=210) Tryz.underlying249 Tryz.underlying210 (by kernel_rfl) (by kernel_rfl) hd]
theorem backs_contract (H:Type) (enc:TypeId×Value→H) (W:World) (base:Nat) (args:Array Value) (ds gs:List (DataW H)) (before:List MemPlace)
  (hval:∀(j:Nat) t v,Tryz.f7.params[j]? = some t→args[j]? = some v→Value.okWide Tryz.prog W .any base t v)
  (hW:DataW.Whole enc Tryz.prog Tryz.f7.params.toList Rows.backsSpec.vars false W args.toList ds gs before) (hL:laidMetH Tryz.prog Rows.backsRow.laid W) (hS:W.ShapedOpen Tryz.prog) :
  Calls Tryz.prog 7 args W fun e W'=>∃v,e=.returned v∧Rows.backsSpec.post enc Tryz.prog Tryz.f7 false true false false W args v W':=by
 have hW':=hW
 obtain⟨p,q,hA0,hV,rfl,_,_⟩:=hW
 have hA:DataW.TrodAll enc Tryz.prog W 0 (fun _=>true) true Tryz.f7.params.toList args.toList ds p:=hA0
 rw[Tryz.params7]at hA hval
 obtain⟨v0,v1,d0,d1,p0,p1,rfl,rfl,rfl,h0,h1⟩:=trodAll_two hA
 obtain⟨rfl,rfl⟩:=trodVars_none hV
 have h0k:=h0
 have h1k:=h1
 obtain⟨z0,rfl,rfl,rfl,hz0⟩:=open_int Tryz.underlying3 (hval 0 3 v0 rfl rfl) h0
 obtain⟨s1,rfl,rfl,rfl,hs1⟩:=Go.ChangeMaps.open_string Tryz.underlying9 (hval 1 9 v1 rfl rfl) h1
 clear hA0
 simp only[List.append_nil,List.nil_append]at hW'
 have hsl:s1.data.toList.length≤9223372036854775807:=by
  have e:s1.data.toList.length=s1.size:=by simp
  unfold maxLen at hs1
  omega
 have hC:=Backs_c z0 s1.data.toList W hsl (backs_tabs hL) (backs_p10 hL) (heap_vars hS)
 rw[show bstr s1.data.toList=s1 from QZ (by simp)]at hC
 refine hC.mono fun e W' ⟨he,hb⟩=>?_
 subst he
 refine⟨_,rfl,⟨_,_,_,[],[],[],hW',?_,?_,rfl,hb.frame _,fun h=>by cases h⟩⟩
 ·exact trodAll_cons_mk (shut_bool Tryz.underlying4 _) trodAll_mk0
 ·exact trodAll_mk2 (Below.trod laidOut (by kernel_rfl) (of_decide_eq_true (by kernel_rfl)) h0k hb (fun x hx=>by cases hx)) (Below.trod laidOut (by kernel_rfl) (of_decide_eq_true (by kernel_rfl)) h1k hb (fun x hx=>by cases hx))
theorem backs_laid (os:Os):laidMet Tryz.prog Rows.backsRow.laid ((World.laidAll Tryz.prog os Rows.backsRow.laid).forCall (fun _ _=>0) ⟨#[],#[.int .i64 0,.string ⟨#[]⟩],[]⟩).memory:=
 laidMet_laidAll _ (by kernel_rfl) (by kernel_rfl)
theorem backs_reads (os:Os) {H:Type} (enc:TypeId×Value→H):∃places,DataW.whole enc Tryz.prog ((World.laidAll Tryz.prog os Rows.backsRow.laid).forCall (fun _ _=>0) ⟨#[],#[.int .i64 0,.string ⟨#[]⟩],[]⟩).memory Tryz.f7.params.toList Rows.backsSpec.vars false #[Value.int .i64 0,.string ⟨#[]⟩].toList 8=some ([.lit (.int .i64 0),.lit (.string [])],[],places):=
 ⟨[],by kernel_rfl⟩
theorem backs_lifted (os:Os) (started:os.Started) (H:Type) (enc:TypeId×Value→H) (F:Stop.Interp) :
  ReturnsInHanded {} Tryz.checked os 7 .any ((OpenSpec.ofChange Rows.backsSpec).preRow enc Tryz.prog Tryz.f7 Rows.backsRow.domain false Rows.backsRow.laid) (((OpenSpec.ofChange Rows.backsSpec).at F).post enc Tryz.prog Tryz.f7 false true false false):=by
 obtain⟨places,hx⟩:=backs_reads os enc
 refine returnsInHanded_of_row (C:=Tryz.checked) (s:=OpenSpec.ofChange Rows.backsSpec) own started (by kernel_rfl) Tryz.func7
  (witness_row_at (enc:=enc) (C:=Tryz.checked) false (World.laidAll Tryz.prog os Rows.backsRow.laid) #[.int .i64 0,.string ⟨#[]⟩] (World.laidAll_os _ _ _) (by kernel_rfl) (by kernel_rfl) (by kernel_rfl)
   (OpenSpec.preRow_of_cond 8 hx (by kernel_rfl) (fun k hk=>by cases hk) (by kernel_rfl) (backs_laid os))) ?_
 intro W base args ds gs before hval hW _ _ _ hL hS _
 exact backs_contract H enc W base args ds gs before hval hW hL hS
theorem backs_said:Rows.BacksSaid:=
 OpenClaim.holds_of_cond 7 Tryz.f7 rfl rfl rfl rfl rfl rfl rfl ⟨rfl,rfl,rfl,rfl,rfl⟩ rfl rfl rfl rfl rfl (by kernel_rfl) Tryz.func7 (by kernel_rfl)
  (of_decide_eq_true (by kernel_rfl)) (by unfold Func.isWrapper;first|(rw[if_pos (by decide +kernel)];kernel_rfl)|(rw[if_neg (by decide +kernel)];exact⟨rfl,rfl⟩))
  (fun os started H enc _ F=>by rw[OpenClaim.pre_eq_preRow];exact backs_lifted os started H enc F)
theorem backs_plain (f:FuncId) (fn:Func) (hf:Tryz.pinned.checked.prog.funcNamed "strider/striderlaw.Backs"=some f) (hfn:Tryz.pinned.checked.prog.funcs[f]? = some fn) :
  false=Tryz.pinned.checked.prog.looks []∧∀(j:Nat) t,fn.params[j]? = some t→Tryz.pinned.checked.prog.wantsStandIn t=false:=by
 obtain rfl:f=7:=Option.some.inj ((show Tryz.prog.funcNamed "strider/striderlaw.Backs"=some 7 by kernel_rfl).symm.trans hf) |>.symm
 obtain rfl:fn=Tryz.f7:=(Option.some.inj (Tryz.func7.symm.trans hfn)).symm
 refine⟨by kernel_rfl,fun j t ht=>?_⟩
 rw[Tryz.params7]at ht
 have:t=3∨t=9:=by
  have:=Array.mem_of_getElem? ht
  simp at this
  exact this
 rcases this with rfl|rfl
 ·exact(show Tryz.prog.wantsStandIn 3=false by kernel_rfl)
 ·exact(show Tryz.prog.wantsStandIn 9=false by kernel_rfl)
theorem backs_card:Rows.BacksCardSaid:=
 Claim7.holds_tied_plain_at .later [] _ _ _ _ backs_said (fun _ h=>by cases h) (by kernel_rfl) (fun _ h=>by cases h) backs_row_tie rfl ⟨rfl,rfl⟩ (by kernel_rfl) rfl backs_plain (by kernel_rfl)
end Go.Proofs.YtegiloiojloaoaaGreatDoor
