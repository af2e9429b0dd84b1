/- What is proved: striderlaw.All returns true for every slice of strings and every slice of images that are together of bulk at most 1048576 (the bound of the statement itself), and leaves them as they were: all answers of Assemble, Names and Disassemble are the document's own, one behind the other, and again, and what comes out is the caller's alone. The package-level tables hold what the program's text lays (the card ties them); no other condition. -/
import Derived.Test.YtegiloiojloaoaaGreatDoorCSpec
import Derived.Test.YtegiloiojloaoaaGreatDoorCRef46
import Derived.ChangeMaps5
import Derived.Test.YtegiloiojloaoaaGreatDoorCards
import Derived.Test.YtegiloiojloaoaaGreatDoorTie
set_option linter.unusedVariables false
set_option linter.unusedSimpArgs false
set_option maxRecDepth 100000
namespace Go.Proofs.YtegiloiojloaoaaGreatDoor
open Go.ChangeShapes Go.WideShapes Go.ChangeAt Go.RowKit
theorem bulk_one {H:Type} (d:DataW H):1≤Rows.uptoBulk d:=by
 cases d with
 |lit l=>cases l <;> simp[Rows.uptoBulk]
 |nil=>simp[Rows.uptoBulk]
 |ptr d=>simp[Rows.uptoBulk]
 |slice elems spare=>simp[Rows.uptoBulk]
 |agg parts=>simp[Rows.uptoBulk]
 |iface t d=>simp[Rows.uptoBulk]
 |map entries=>simp[Rows.uptoBulk]
 |held h=>simp[Rows.uptoBulk]
theorem bulk_len {H:Type} (l:List (DataW H)):l.length≤Rows.uptoBulkAll l:=by
 induction l with
 |nil=>simp[Rows.uptoBulkAll]
 |cons x r ih=>have:=bulk_one x;simp only[Rows.uptoBulkAll,List.length_cons];omega
theorem bulk_first {H:Type} {d:DataW H} {l:List (DataW H)} (hk:Rows.uptoSmall H (d::l)=true):Rows.uptoBulk d≤1048576:=by
 have h:=of_decide_eq_true hk
 simp only[Rows.uptoBulkAll]at h
 omega
theorem bulk_slice {H:Type} {el sp:List (DataW H)} {l:List (DataW H)} (hk:Rows.uptoSmall H (.slice el sp::l)=true):el.length≤1048576:=by
 have h:=bulk_first hk
 have h1:=bulk_len el
 simp only[Rows.uptoBulk]at h
 omega
theorem all_tabs {W:World} (h:laidMetH Tryz.prog Rows.allRow.laid W):Tabs W:=by
 rw[MakeChecks.laidMetH_plain _ _ _ (by kernel_rfl)]at h
 exact tabs_of h (by simp[Rows.allRow]) (by simp[Rows.allRow]) (by simp[Rows.allRow]) (by simp[Rows.allRow]) (by simp[Rows.allRow]) (by simp[Rows.allRow]) (by simp[Rows.allRow])
theorem all_p10 {W:World} (h:laidMetH Tryz.prog Rows.allRow.laid W):P10 W:=by
 rw[MakeChecks.laidMetH_plain _ _ _ (by kernel_rfl)]at h
 obtain⟨g,t,cs,fuel,p,hg,ht,hv,hd⟩:=Lib.laidMet.reads h (n := "internal/strconv.uint64pow10") (d:=Lib.tabData .u64 Lib.pow10Tab) (by
  have:(Lib.tabData .u64 Lib.pow10Tab:DataW Unit)=Rows.laid_internal_strconv_uint64pow10:=by kernel_rfl
  rw[this];simp[Rows.allRow])
 obtain rfl:t=249:=by
  rw[show Tryz.prog.globalNamed "internal/strconv.uint64pow10"=some 5 by kernel_rfl]at hg
  cases hg
  exact Option.some.inj (ht.symm.trans (by kernel_rfl))
 unfold P10 Lib.TabIs
 rw[hv,←Lib.cells_of_tab (n:=20) (e:=210) Tryz.underlying249 Tryz.underlying210 (by kernel_rfl) (by kernel_rfl) hd]
theorem all_contract (H:Type) (enc:TypeId×Value→H) (W:World) (base:Nat) (args:Array Value) (ds gs:List (DataW H)) (before:List MemPlace)
  (hval:∀(j:Nat) t v,Tryz.f9.params[j]? = some t→args[j]? = some v→Value.okWide Tryz.prog W .any base t v)
  (hW:DataW.Whole enc Tryz.prog Tryz.f9.params.toList Rows.allSpec.vars false W args.toList ds gs before) (hk:Rows.uptoSmall H (ds++gs)=true) (hL:laidMetH Tryz.prog Rows.allRow.laid W) (hS:W.ShapedOpen Tryz.prog) :
  Calls Tryz.prog 9 args W fun e W'=>∃v,e=.returned v∧Rows.allSpec.post enc Tryz.prog Tryz.f9 false true false false W args v W':=by
 have hW':=hW
 obtain⟨p,q,hA0,hV,rfl,_,_⟩:=hW
 have hA:DataW.TrodAll enc Tryz.prog W 0 (fun _=>true) true Tryz.f9.params.toList args.toList ds p:=hA0
 rw[Tryz.params9]at hA hval
 obtain⟨v0,v1,d0,d1,p0,p1,rfl,rfl,rfl,h0,h1⟩:=trodAll_two hA
 obtain⟨rfl,rfl⟩:=trodVars_none hV
 obtain⟨xs,hX,hxl⟩:=strs_of (hval 0 38 v0 rfl rfl) h0
 obtain⟨ys,hY,hyl⟩:=imgs_of (hval 1 59 v1 rfl rfl) h1
 clear hA0
 simp only[List.append_nil,List.nil_append]at hW'
 have hx:xs.length≤1048576:=by
  rcases hxl with h|⟨el,sp,rfl,h⟩
  ·omega
  ·have:=bulk_slice hk
   omega
 have hlt0:∀x∈p0,x.block<W.heap.size:=fun x hx=>by simpa using hW'.lt x (by simp[hx])
 have hlt1:∀x∈p1,x.block<W.heap.size:=fun x hx=>by simpa using hW'.lt x (by simp[hx])
 have hC:=All_c v0 v1 xs ys W hX hY hx hyl (heap_vars hS) (all_tabs hL) (all_p10 hL)
 refine hC.mono fun e W' ⟨he,hb⟩=>?_
 subst he
 refine⟨_,rfl,⟨_,_,_,[],p0++p1,[],hW',?_,?_,rfl,hb.frame _,fun h=>by cases h⟩⟩
 ·exact trodAll_cons_mk (shut_bool Tryz.underlying4 _) trodAll_mk0
 ·exact trodAll_mk2 (Below.trod laidOut (by kernel_rfl) (of_decide_eq_true (by kernel_rfl)) h0 hb hlt0) (Below.trod laidOut (by kernel_rfl) (of_decide_eq_true (by kernel_rfl)) h1 hb hlt1)
theorem all_laid (os:Os):laidMet Tryz.prog Rows.allRow.laid ((World.laidAll Tryz.prog os Rows.allRow.laid).forCall (fun _ _=>0) ⟨#[],#[.slice none 0 0,.slice none 0 0],[]⟩).memory:=
 laidMet_laidAll _ (by kernel_rfl) (by kernel_rfl)
theorem all_reads (os:Os) {H:Type} (enc:TypeId×Value→H):∃places,DataW.whole enc Tryz.prog ((World.laidAll Tryz.prog os Rows.allRow.laid).forCall (fun _ _=>0) ⟨#[],#[.slice none 0 0,.slice none 0 0],[]⟩).memory Tryz.f9.params.toList Rows.allSpec.vars false #[Value.slice none 0 0,.slice none 0 0].toList 8=some ([.nil,.nil],[],places):=
 ⟨[],by kernel_rfl⟩
theorem allUpto_lifted (os:Os) (started:os.Started) (H:Type) (enc:TypeId×Value→H) (F:Stop.Interp) :
  ReturnsInHanded {} Tryz.checked os 9 .any ((Rows.OpenSpec.upto Rows.allSpec).preRow enc Tryz.prog Tryz.f9 Rows.allUptoRow.domain false Rows.allUptoRow.laid) (((Rows.OpenSpec.upto Rows.allSpec).at F).post enc Tryz.prog Tryz.f9 false true false false):=by
 obtain⟨places,hx⟩:=all_reads os enc
 refine returnsInHanded_of_row (C:=Tryz.checked) (s:=Rows.OpenSpec.upto Rows.allSpec) own started (by kernel_rfl) Tryz.func9
  (witness_row_at (enc:=enc) (C:=Tryz.checked) false (World.laidAll Tryz.prog os Rows.allRow.laid) #[.slice none 0 0,.slice none 0 0] (World.laidAll_os _ _ _) (by kernel_rfl) (by kernel_rfl) (by kernel_rfl)
   (OpenSpec.preRow_of_cond 8 hx (by kernel_rfl) (fun k hk=>by cases hk;kernel_rfl) (by kernel_rfl) (all_laid os))) ?_
 intro W base args ds gs before hval hW _ hcond _ hL hS _
 exact all_contract H enc W base args ds gs before hval hW (hcond _ rfl) hL hS
theorem allUpto_said:Rows.AllUptoSaid:=
 OpenClaim.holds_of_cond 9 Tryz.f9 rfl rfl rfl rfl rfl rfl rfl ⟨rfl,rfl,rfl,rfl,rfl⟩ rfl rfl rfl rfl rfl (by kernel_rfl) Tryz.func9 (by kernel_rfl)
  (of_decide_eq_true (by kernel_rfl)) (by unfold Func.isWrapper;first|(rw[if_pos (by decide +kernel)];kernel_rfl)|(rw[if_neg (by decide +kernel)];exact⟨rfl,rfl⟩))
  (fun os started H enc _ F=>by rw[OpenClaim.pre_eq_preRow];exact allUpto_lifted os started H enc F)
theorem all_plain (f:FuncId) (fn:Func) (hf:Tryz.pinned.checked.prog.funcNamed "strider/striderlaw.All"=some f) (hfn:Tryz.pinned.checked.prog.funcs[f]? = some fn) :
  false=Tryz.pinned.checked.prog.looks []∧∀(j:Nat) t,fn.params[j]? = some t→Tryz.pinned.checked.prog.wantsStandIn t=false:=by
 obtain rfl:f=9:=Option.some.inj ((show Tryz.prog.funcNamed "strider/striderlaw.All"=some 9 by kernel_rfl).symm.trans hf) |>.symm
 obtain rfl:fn=Tryz.f9:=(Option.some.inj (Tryz.func9.symm.trans hfn)).symm
 refine⟨by kernel_rfl,fun j t ht=>?_⟩
 rw[Tryz.params9]at ht
 have:t=38∨t=59:=by
  have:=Array.mem_of_getElem? ht
  simp at this
  exact this
 rcases this with rfl|rfl
 ·exact(show Tryz.prog.wantsStandIn 38=false by kernel_rfl)
 ·exact(show Tryz.prog.wantsStandIn 59=false by kernel_rfl)
theorem allUpto_card:Rows.AllUptoCardSaid:=
 Claim7.holds_tied_plain_at .later [] _ _ _ _ allUpto_said (fun _ h=>by cases h) (by kernel_rfl) (fun _ h=>by cases h) allUpto_row_tie rfl ⟨rfl,rfl⟩ (by kernel_rfl) rfl all_plain (by kernel_rfl)
end Go.Proofs.YtegiloiojloaoaaGreatDoor
