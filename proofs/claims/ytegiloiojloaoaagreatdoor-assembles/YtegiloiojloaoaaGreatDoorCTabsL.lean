/- The tables, as the program's text lays them. -/
import Derived.Test.YtegiloiojloaoaaGreatDoorCSpec
import Derived.Test.YtegiloiojloaoaaGreatDoorCTabs
import Derived.Test.YtegiloiojloaoaaGreatDoorRows
import Derived.Lib.LaidU8
import Derived.MakeChecks
import Derived.PinnedBridge
import Derived.Deep.Slices
import Derived.ProofKit
import Derived.OpenShut
import Derived.Deep.DeepHandedRow
import Derived.Lib.LaidTab
import Derived.Lay
set_option linter.unusedVariables false
set_option linter.unusedSimpArgs false
namespace Go.Proofs.YtegiloiojloaoaaGreatDoor
open Go.RowKit Go.Shelf Go.Lib
section
variable {H:Type} {enc:TypeId×Value→H} {P:Program} {w:World} {base:Nat} {sp:Nat→Bool} {held:Bool}
theorem array_len {fuel:Nat} {t e:TypeId} {n:Nat} {cs:List Value} {ds:List (DataW H)} {p:List MemPlace} (ht:P.underlying t=some (.array n e)) (hct:P.cellsOf t=n*P.cellsOf e)
  (h:DataW.trod enc P w base sp held fuel t cs=some (.agg ds,p)):cs.length=n*P.cellsOf e:=by
 cases fuel with
 |zero=>simp[DataW.trod]at h
 |succ fuel=>
  simp only[DataW.trod,ht]at h
  split at h
  ·rename_i hl
   omega
  ·cases h
theorem array_lenC {fuel:Nat} {t e:TypeId} {n c:Nat} {cs:List Value} {ds:List (DataW H)} {p:List MemPlace} (ht:P.underlying t=some (.array n e)) (hce:P.cellsOf e=c) (hct:P.cellsOf t=n*c)
  (h:DataW.trod enc P w base sp held fuel t cs=some (.agg ds,p)):cs.length=n*c:=by
 subst hce
 exact array_len ht hct h
theorem rows_flat (c:Nat):∀(rows:List (List Value)) (cs:List Value),cs.length=rows.length*c→(∀r∈rows,r.length=c)→(∀i (h:i<rows.length),(cs.drop (i*c)).take c=rows[i])→cs=rows.flatten
 |[],cs,hl,_,_=>by simpa using hl
 |r::rows,cs,hl,hr,h=>by
  have h0:=h 0 (by simp)
  simp only[Nat.zero_mul,List.drop_zero,List.getElem_cons_zero]at h0
  have hlc:cs.length=rows.length*c+c:=by rw[hl,List.length_cons,Nat.add_mul,Nat.one_mul]
  have ih:=rows_flat c rows (cs.drop c) (by rw[List.length_drop];omega) (fun x hx=>hr x (by simp[hx])) (fun i hi=>by
   have:=h (i+1) (by simpa using hi)
   rw[List.getElem_cons_succ]at this
   rw[List.drop_drop,←this,Nat.add_mul,Nat.one_mul,Nat.add_comm])
  rw[List.flatten_cons,←ih,←h0,List.take_append_drop]
theorem string_cell {fuel:Nat} {t:TypeId} {cs:List Value} {s:List UInt8} {q:List MemPlace} (ht:P.underlying t=some .string) (h:DataW.trod enc P w base sp held fuel t cs=some (.lit (.string s),q)):cs=[.string (bstr s)]:=by
 obtain⟨b,rfl,hx,_⟩:=DataW.trod_string ht h
 have:b.data.toList=s:=by
  have:=congrArg Prod.fst hx
  simpa using this.symm
 rw[←this,bstr_of]
theorem int_cell {fuel:Nat} {t:TypeId} {k:IntKind} {cs:List Value} {z:Int} {q:List MemPlace} (ht:P.underlying t=some (.int k)) (h:DataW.trod enc P w base sp held fuel t cs=some (.lit (.int k z),q)):cs=[.int k z]:=by
 obtain⟨b,rfl,hx,_⟩:=DataW.trod_int ht h
 have:b=z:=by
  have:=congrArg Prod.fst hx
  simpa using this.symm
 rw[this]
theorem strings_tab {fuel:Nat} {t e:TypeId} {n:Nat} {cs:List Value} {ss:List (List UInt8)} {p:List MemPlace} (ht:P.underlying t=some (.array n e)) (he:P.underlying e=some .string) (hce:P.cellsOf e=1) (hct:P.cellsOf t=n) (hn:ss.length=n)
  (h:DataW.trod enc P w base sp held fuel t cs=some (.agg (ss.map fun s=>.lit (.string s)),p)):cs=ss.map fun s=>Value.string (bstr s):=by
 have hl:=array_len ht (by rw[hce,hct,Nat.mul_one]) h
 rw[hce,Nat.mul_one]at hl
 have:=rows_flat 1 (ss.map fun s=>[Value.string (bstr s)]) cs (by rw[List.length_map,Nat.mul_one,hn,hl]) (fun r hr=>by obtain⟨s,_,rfl⟩:=List.mem_map.1 hr;rfl) (fun i hi=>by
  rw[List.length_map]at hi
  obtain⟨f',d,q,hd,hr⟩:=array_elem ht h i (by omega)
  rw[List.getElem?_map,gE hi]at hd
  simp only[Option.map_some,Option.some.injEq]at hd
  subst hd
  rw[hce]at hr
  rw[string_cell he hr,List.getElem_map])
 rw[this]
 clear this h hn hl
 induction ss with
 |nil=>rfl
 |cons s ss ih=>simp[ih]
end
theorem var_block {w:World} {n:String} {g:Nat} {cs:Array Value} (hg:Tryz.prog.globalNamed n=some g) (h:w.var? Tryz.prog n=some cs):∃t fr,w.heap[g]? = some (.cells cs t fr):=by
 simp only[World.var?,hg,Option.bind_some]at h
 split at h
 ·rename_i cs' t fr hx
  simp only[Option.some.injEq]at h
  subst h
  exact⟨t,fr,hx⟩
 ·cases h
theorem reads_strings {w:World} {n:String} {g:Nat} {t:TypeId} {N:Nat} {ss:List (List UInt8)} (hg:Tryz.prog.globalNamed n=some g) (hty:(Tryz.prog.globals[g]?).map (·.type)=some t) (ht:Tryz.prog.underlying t=some (.array N 9)) (hct:Tryz.prog.cellsOf t=N) (hn:ss.length=N)
  (h:VarReads Tryz.prog w n (.agg (ss.map fun s=>.lit (.string s)))):∃t fr,w.heap[g]? = some (.cells (ss.map fun s=>Value.string (bstr s)).toArray t fr):=by
 obtain⟨g',t',cs,fuel,p,hg',hty',hvar,hd⟩:=h
 obtain rfl:=Option.some.inj (hg.symm.trans hg')
 obtain rfl:=Option.some.inj (hty.symm.trans hty')
 have:=strings_tab ht Tryz.underlying9 (by kernel_rfl) hct hn hd
 have e:cs=(ss.map fun s=>Value.string (bstr s)).toArray:=by rw[←this]
 rw[←e]
 exact var_block hg hvar
theorem three_of {cs:List Value} (h:cs.length=3):∃a b c,cs=[a,b,c]:=by
 match cs,h with
 |[a,b,c],_=>exact⟨a,b,c,rfl⟩
theorem two_of {cs:List Value} (h:cs.length=2):∃a b,cs=[a,b]:=by
 match cs,h with
 |[a,b],_=>exact⟨a,b,rfl⟩
theorem fixed_struct {H:Type} {enc:TypeId×Value→H} {w:World} {base:Nat} {sp:Nat→Bool} {held:Bool} {fuel:Nat} {cs:List Value} {s:List UInt8} {a b:Int} {p:List MemPlace}
  (h:DataW.trod enc Tryz.prog w base sp held fuel 188 cs=some (.agg [.lit (.string s),.lit (.int .i64 a),.lit (.int .i64 b)],p)):cs=[.string (bstr s),.int .i64 a,.int .i64 b]:=by
 obtain⟨xs,n,rfl,hx,hl,hxl,hall⟩:=DataW.trod_struct Tryz.underlying188 h
 have hxs:=(congrArg Prod.fst hx)
 simp only[DataW.agg.injEq]at hxs
 rw[show Tryz.prog.cellsOf 188=3 by kernel_rfl]at hl
 match xs,hxs with
 |[x0,x1,x2],hxs=>
  simp only[List.map_cons,List.map_nil,List.cons.injEq,and_true]at hxs
  have h0:DataW.trod enc Tryz.prog w base sp held n 9 ((cs.drop 0).take (Tryz.prog.cellsOf 9))=some x0:=hall 0 _ rfl
  have h1:DataW.trod enc Tryz.prog w base sp held n 90 ((cs.drop 1).take (Tryz.prog.cellsOf 90))=some x1:=hall 1 _ rfl
  have h2:DataW.trod enc Tryz.prog w base sp held n 3 ((cs.drop 2).take (Tryz.prog.cellsOf 3))=some x2:=hall 2 _ rfl
  rw[show Tryz.prog.cellsOf 9=1 by kernel_rfl]at h0
  rw[show Tryz.prog.cellsOf 90=1 by kernel_rfl]at h1
  rw[show Tryz.prog.cellsOf 3=1 by kernel_rfl]at h2
  obtain⟨e0,e1,e2⟩:=hxs
  obtain⟨y0,q0⟩:=x0
  obtain⟨y1,q1⟩:=x1
  obtain⟨y2,q2⟩:=x2
  simp only at e0 e1 e2
  subst e0 e1 e2
  have c0:=string_cell Tryz.underlying9 h0
  have c1:=int_cell Tryz.underlying90 h1
  have c2:=int_cell Tryz.underlying3 h2
  clear h0 h1 h2 hall hx hxl h
  obtain⟨u0,u1,u2,rfl⟩:=three_of hl
  simp only[List.drop_zero,List.drop_succ_cons,List.take_succ_cons,List.take_zero,List.cons.injEq,and_true]at c0 c1 c2
  rw[c0,c1,c2]
theorem far_struct {H:Type} {enc:TypeId×Value→H} {w:World} {base:Nat} {sp:Nat→Bool} {held:Bool} {fuel:Nat} {cs:List Value} {s:List UInt8} {a:Int} {p:List MemPlace}
  (h:DataW.trod enc Tryz.prog w base sp held fuel 186 cs=some (.agg [.lit (.string s),.lit (.int .i64 a)],p)):cs=[.string (bstr s),.int .i64 a]:=by
 obtain⟨xs,n,rfl,hx,hl,hxl,hall⟩:=DataW.trod_struct Tryz.underlying186 h
 have hxs:=(congrArg Prod.fst hx)
 simp only[DataW.agg.injEq]at hxs
 rw[show Tryz.prog.cellsOf 186=2 by kernel_rfl]at hl
 match xs,hxs with
 |[x0,x1],hxs=>
  simp only[List.map_cons,List.map_nil,List.cons.injEq,and_true]at hxs
  have h0:DataW.trod enc Tryz.prog w base sp held n 9 ((cs.drop 0).take (Tryz.prog.cellsOf 9))=some x0:=hall 0 _ rfl
  have h1:DataW.trod enc Tryz.prog w base sp held n 3 ((cs.drop 1).take (Tryz.prog.cellsOf 3))=some x1:=hall 1 _ rfl
  rw[show Tryz.prog.cellsOf 9=1 by kernel_rfl]at h0
  rw[show Tryz.prog.cellsOf 3=1 by kernel_rfl]at h1
  obtain⟨e0,e1⟩:=hxs
  obtain⟨y0,q0⟩:=x0
  obtain⟨y1,q1⟩:=x1
  simp only at e0 e1
  subst e0 e1
  have c0:=string_cell Tryz.underlying9 h0
  have c1:=int_cell Tryz.underlying3 h1
  clear h0 h1 hall hx hxl h
  obtain⟨u0,u1,rfl⟩:=two_of hl
  simp only[List.drop_zero,List.drop_succ_cons,List.take_succ_cons,List.take_zero,List.cons.injEq,and_true]at c0 c1
  rw[c0,c1]
def fixedData:DataW Unit:=.agg (Strd.fixedWords.map fun r=>.agg [.lit (.string r.1),.lit (.int .i64 r.2.1),.lit (.int .i64 r.2.2)])
def farData:DataW Unit:=.agg (Strd.farWords.map fun r=>.agg [.lit (.string r.1),.lit (.int .i64 r.2)])
theorem fixed_block {w:World} (h:VarReads Tryz.prog w "strider/code.fixedWords" fixedData):∃t fr,w.heap[2]? = some (.cells fixedCells t fr):=by
 obtain⟨g,t,cs,fuel,p,hg,hty,hvar,hd⟩:=h
 obtain rfl:=Option.some.inj ((show Tryz.prog.globalNamed "strider/code.fixedWords"=some 2 by kernel_rfl).symm.trans hg)
 obtain rfl:=Option.some.inj ((show (Tryz.prog.globals[2]?).map (·.type)=some 189 by kernel_rfl).symm.trans hty)
 have hc:Tryz.prog.cellsOf 188=3:=by kernel_rfl
 have hl:=array_lenC Tryz.underlying189 hc (by kernel_rfl) hd
 have:=rows_flat 3 (Strd.fixedWords.map fun r=>[Value.string (bstr r.1),.int .i64 r.2.1,.int .i64 r.2.2]) cs.toList (by rw[hl];rfl) (fun r hr=>by obtain⟨s,_,rfl⟩:=List.mem_map.1 hr;rfl) (fun i hi=>by
  rw[List.length_map]at hi
  obtain⟨f',d,q,hdi,hr⟩:=array_elem Tryz.underlying189 hd i hi
  rw[List.getElem?_map,gE hi]at hdi
  simp only[Option.map_some,Option.some.injEq]at hdi
  subst hdi
  rw[hc]at hr
  rw[fixed_struct hr,List.getElem_map])
 have e:cs=fixedCells:=by
  apply Array.ext'
  rw[this]
  unfold fixedCells
  rw[List.flatMap_def]
 rw[←e]
 exact var_block hg hvar
theorem far_block {w:World} (h:VarReads Tryz.prog w "strider/code.farWords" farData):∃t fr,w.heap[1]? = some (.cells farCells t fr):=by
 obtain⟨g,t,cs,fuel,p,hg,hty,hvar,hd⟩:=h
 obtain rfl:=Option.some.inj ((show Tryz.prog.globalNamed "strider/code.farWords"=some 1 by kernel_rfl).symm.trans hg)
 obtain rfl:=Option.some.inj ((show (Tryz.prog.globals[1]?).map (·.type)=some 187 by kernel_rfl).symm.trans hty)
 have hc:Tryz.prog.cellsOf 186=2:=by kernel_rfl
 have hl:=array_lenC Tryz.underlying187 hc (by kernel_rfl) hd
 have:=rows_flat 2 (Strd.farWords.map fun r=>[Value.string (bstr r.1),.int .i64 r.2]) cs.toList (by rw[hl];rfl) (fun r hr=>by obtain⟨s,_,rfl⟩:=List.mem_map.1 hr;rfl) (fun i hi=>by
  rw[List.length_map]at hi
  obtain⟨f',d,q,hdi,hr⟩:=array_elem Tryz.underlying187 hd i hi
  rw[List.getElem?_map,gE hi]at hdi
  simp only[Option.map_some,Option.some.injEq]at hdi
  subst hdi
  rw[hc]at hr
  rw[far_struct hr,List.getElem_map])
 have e:cs=farCells:=by
  apply Array.ext'
  rw[this]
  unfold farCells
  rw[List.flatMap_def]
 rw[←e]
 exact var_block hg hvar
theorem utf_tabs {w:World} (h3:VarReads Tryz.prog w "unicode/utf8.first" firstData) (h4:VarReads Tryz.prog w "unicode/utf8.acceptRanges" acceptData):Lib.Utf8Tabs 8 9 w:=by
 refine⟨fun c hc=>?_,fun i hi=>?_⟩
 ·obtain⟨g,t,cs,fuel,p,hg,hty,hvar,hd⟩:=h3
  obtain rfl:=Option.some.inj ((show Tryz.prog.globalNamed "unicode/utf8.first"=some 8 by kernel_rfl).symm.trans hg)
  obtain rfl:=Option.some.inj ((show (Tryz.prog.globals[8]?).map (·.type)=some 259 by kernel_rfl).symm.trans hty)
  have hcs:=cells_of_tab Tryz.underlying259 Tryz.underlying5 (by kernel_rfl) (by kernel_rfl) hd
  have:=World.var?_cell hg hvar c
  rw[this,←Array.getElem?_toList,hcs]
  simp[firstTab,hc]
 ·obtain⟨g,t,cs,fuel,p,hg,hty,hvar,hd⟩:=h4
  obtain rfl:=Option.some.inj ((show Tryz.prog.globalNamed "unicode/utf8.acceptRanges"=some 9 by kernel_rfl).symm.trans hg)
  obtain rfl:=Option.some.inj ((show (Tryz.prog.globals[9]?).map (·.type)=some 262 by kernel_rfl).symm.trans hty)
  obtain⟨fuel',d,q,hdi,he⟩:=array_elem Tryz.underlying262 hd i hi
  simp only[List.getElem?_map,List.getElem?_range hi,Option.map_some,Option.some.injEq]at hdi
  subst hdi
  rw[show Tryz.prog.cellsOf 261=2 by kernel_rfl]at he
  have hcs:=ints_of_struct Tryz.underlying261 (fun j f hj=>by
   match j,hj with
   |0,hj=>simp at hj;subst hj;exact⟨Tryz.underlying5,rfl,by kernel_rfl⟩
   |1,hj=>simp at hj;subst hj;exact⟨Tryz.underlying5,rfl,by kernel_rfl⟩
   |j+2,hj=>simp at hj) (by kernel_rfl) he
  have e0:=congrArg (·[0]?) hcs
  have e1:=congrArg (·[1]?) hcs
  simp only[List.getElem?_take,List.getElem?_drop]at e0 e1
  constructor
  ·rw[World.var?_cell hg hvar (2*i),←Array.getElem?_toList]
   simpa [Nat.mul_comm] using e0
  ·rw[World.var?_cell hg hvar (2*i+1),←Array.getElem?_toList]
   simpa [Nat.mul_comm] using e1
theorem tabs_of {l:List (String×DataW Unit)} {w:World} (h:laidMet Tryz.prog l w) (a:("unicode/utf8.acceptRanges",(Rows.laid_unicode_utf8_acceptRanges:DataW Unit))∈l) (b:("strider/code.roleMarks",(Rows.laid_strider_code_roleMarks:DataW Unit))∈l) (c:("strider/code.fixedWords",(Rows.laid_strider_code_fixedWords:DataW Unit))∈l)
  (d:("strider/code.jumpWords",(Rows.laid_strider_code_jumpWords:DataW Unit))∈l) (e:("strider/code.formEndings",(Rows.laid_strider_code_formEndings:DataW Unit))∈l) (f:("strider/code.farWords",(Rows.laid_strider_code_farWords:DataW Unit))∈l) (g:("unicode/utf8.first",Rows.laid_unicode_utf8_first)∈l):Tabs w:=by
 have ra:=laidMet.reads h a
 have rb:=laidMet.reads h b
 have rc:=laidMet.reads h c
 have rd:=laidMet.reads h d
 have re:=laidMet.reads h e
 have rf:=laidMet.reads h f
 have rg:=laidMet.reads h g
 rw[show (Rows.laid_unicode_utf8_acceptRanges:DataW Unit)=acceptData by kernel_rfl]at ra
 rw[show (Rows.laid_strider_code_roleMarks:DataW Unit)=.agg (marks.map fun s=>.lit (.string s)) by kernel_rfl]at rb
 rw[show (Rows.laid_strider_code_fixedWords:DataW Unit)=fixedData by kernel_rfl]at rc
 rw[show (Rows.laid_strider_code_jumpWords:DataW Unit)=.agg (Strd.jumpWords.map fun s=>.lit (.string s)) by kernel_rfl]at rd
 rw[show (Rows.laid_strider_code_formEndings:DataW Unit)=.agg (endings.map fun s=>.lit (.string s)) by kernel_rfl]at re
 rw[show (Rows.laid_strider_code_farWords:DataW Unit)=farData by kernel_rfl]at rf
 rw[show Rows.laid_unicode_utf8_first=firstData from Pinned.utf8First_eq]at rg
 exact⟨fun _=>utf_tabs rg ra,fixed_block rc,reads_strings (by kernel_rfl) (by kernel_rfl) Tryz.underlying185 (by kernel_rfl) rfl rd,far_block rf,reads_strings (by kernel_rfl) (by kernel_rfl) Tryz.underlying213 (by kernel_rfl) rfl re,reads_strings (by kernel_rfl) (by kernel_rfl) Tryz.underlying191 (by kernel_rfl) rfl rb⟩
theorem tabs_five {l:List (String×DataW Unit)} {w:World} (h:laidMet Tryz.prog l w) (b:("strider/code.roleMarks",(Rows.laid_strider_code_roleMarks:DataW Unit))∈l) (c:("strider/code.fixedWords",(Rows.laid_strider_code_fixedWords:DataW Unit))∈l)
  (d:("strider/code.jumpWords",(Rows.laid_strider_code_jumpWords:DataW Unit))∈l) (e:("strider/code.formEndings",(Rows.laid_strider_code_formEndings:DataW Unit))∈l) (f:("strider/code.farWords",(Rows.laid_strider_code_farWords:DataW Unit))∈l):TabsX false w:=by
 have rb:=laidMet.reads h b
 have rc:=laidMet.reads h c
 have rd:=laidMet.reads h d
 have re:=laidMet.reads h e
 have rf:=laidMet.reads h f
 rw[show (Rows.laid_strider_code_roleMarks:DataW Unit)=.agg (marks.map fun s=>.lit (.string s)) by kernel_rfl]at rb
 rw[show (Rows.laid_strider_code_fixedWords:DataW Unit)=fixedData by kernel_rfl]at rc
 rw[show (Rows.laid_strider_code_jumpWords:DataW Unit)=.agg (Strd.jumpWords.map fun s=>.lit (.string s)) by kernel_rfl]at rd
 rw[show (Rows.laid_strider_code_formEndings:DataW Unit)=.agg (endings.map fun s=>.lit (.string s)) by kernel_rfl]at re
 rw[show (Rows.laid_strider_code_farWords:DataW Unit)=farData by kernel_rfl]at rf
 exact⟨(fun h=>by cases h),fixed_block rc,reads_strings (by kernel_rfl) (by kernel_rfl) Tryz.underlying185 (by kernel_rfl) rfl rd,far_block rf,reads_strings (by kernel_rfl) (by kernel_rfl) Tryz.underlying213 (by kernel_rfl) rfl re,reads_strings (by kernel_rfl) (by kernel_rfl) Tryz.underlying191 (by kernel_rfl) rfl rb⟩
end Go.Proofs.YtegiloiojloaoaaGreatDoor
namespace Go.Proofs.YtegiloiojloaoaaGreatDoor
open Go.ChangeShapes Go.WideShapes Go.ChangeAt Go.RowKit
theorem own:ownKnob Tryz.prog.godebug=none:=by kernel_rfl
theorem laidOut:laidOutB Tryz.prog=true:=by kernel_rfl
theorem heap_vars {W:World} (h:W.ShapedOpen Tryz.prog):11≤W.heap.size:=by
 obtain⟨cs,hc,_⟩:=h.1 10 #[.int .i64 0] 3 (of_decide_eq_true (by kernel_rfl)) (by kernel_rfl)
 exact(Array.getElem?_eq_some_iff.1 hc).1
end Go.Proofs.YtegiloiojloaoaaGreatDoor
