/- Contracts of package read: names, words. -/
import Derived.Test.YtegiloiojloaoaaGreatDoorCSpec
import Derived.Test.YtegiloiojloaoaaGreatDoorCPieces
import Derived.Deep.RegionWith
import Derived.Deep.QuietTactic
import Derived.BigQuiet
set_option linter.unusedVariables false
set_option linter.unusedSimpArgs false
set_option maxHeartbeats 2000000
set_option maxRecDepth 1000000
namespace Go.Proofs.YtegiloiojloaoaaGreatDoor
open Go.RowKit Go.Shelf
def nameSign (r:Nat) (first:Bool):Bool:=(97≤r&&r≤122)||(65≤r&&r≤90)||r==95||128≤r||(48≤r&&r≤57&&!first)
def broken (r:Nat) (rest:Strd.Bs):Bool:=r==65533&&!Lib.hasPrefix rest [239,191,189]
def badSign (r:Nat) (first:Bool) (rest:Strd.Bs):Bool:=!nameSign r first||broken r rest
theorem nameSign_int (r:Nat) (first:Bool):nameSign r first=(decide ((97:Int)≤r)&&decide ((r:Int)≤122)||decide ((65:Int)≤r)&&decide ((r:Int)≤90)||((r:Int)==95)||decide ((128:Int)≤r)||(decide ((48:Int)≤r)&&decide ((r:Int)≤57)&&!first)):=by
 unfold nameSign
 rw[Bool.eq_iff_iff]
 cases first <;> simp only[Bool.or_eq_true,Bool.and_eq_true,decide_eq_true_eq,beq_iff_eq,Bool.not_true,Bool.not_false,Bool.false_eq_true,and_false,and_true,or_false] <;> omega
theorem isNameSign_c (r:Nat) (first:Bool) (w:World) :
  Calls Tryz.prog 179 #[.int .i32 (r:Int),.bool first] w fun e w'=>e=.returned (.bool (nameSign r first))∧w'=w:=by
 rw[nameSign_int]
 have hr:(0:Int)≤r:=by omega
 generalize (r:Int)=x at hr
 cases first
 all_goals
  go_enter Tryz.func179,Tryz.ntmps179
  go_wp2
  all_goals go_ret
  all_goals refine⟨ret_bool ?_,rfl⟩
  all_goals rw[Bool.eq_iff_iff]
  all_goals simp only[Bool.or_eq_true,Bool.and_eq_true,decide_eq_true_eq,beq_iff_eq,beq_eq_false_iff_ne,Bool.not_true,Bool.not_false,Bool.false_eq_true,and_false,and_true,or_false,true_iff,false_iff]at *
  all_goals omega
theorem isBroken_c (r:Nat) (rest:ByteArray) (w:World) :
  Calls Tryz.prog 180 #[.int .i32 (r:Int),.string rest] w fun e w'=>e=.returned (.bool (broken r rest.data.toList))∧w'=w:=by
 have e:(r==65533)=((r:Int)==65533):=by rw[Bool.eq_iff_iff,beq_iff_eq,beq_iff_eq];omega
 by_cases h:r=65533
 ·have hb:((r:Int)==65533)=true:=by rw[←e];simpa using h
  have Hh:=QB h
  clear h e
  go_enter Tryz.func180,Tryz.ntmps180
  go_wp2_with (go_at_call 157;refine(Tryz.strings_HasPrefix _ _ _).mono ?_;rintro e w' ⟨rfl,rfl⟩)
  go_ret
  exact⟨ret_bool (by simp[broken,QA Hh]),rfl⟩
 ·have hb:((r:Int)==65533)=false:=by rw[←e];simpa using h
  have Hh:=QB h
  clear h e
  go_enter Tryz.func180,Tryz.ntmps180
  go_wp2
  go_ret
  exact⟨ret_bool (by simp[broken,QA Hh]),rfl⟩
theorem letter_nat (a:UInt8):Strd.letter a=(decide (97≤a.toNat)&&decide (a.toNat≤122)||decide (65≤a.toNat)&&decide (a.toNat≤90)||(a.toNat==95)):=by
 unfold Strd.letter
 rw[Bool.eq_iff_iff]
 simp only[Bool.or_eq_true,Bool.and_eq_true,decide_eq_true_eq,beq_iff_eq,UInt8.le_iff_toNat_le,←UInt8.toNat_inj]
 rfl
theorem digit_nat (a:UInt8):Strd.digit a=(decide (48≤a.toNat)&&decide (a.toNat≤57)):=by
 unfold Strd.digit
 rw[Bool.eq_iff_iff]
 simp only[Bool.and_eq_true,decide_eq_true_eq,UInt8.le_iff_toNat_le]
 rfl
theorem nameCount_fuel:∀(f:Nat) (first:Bool) (l:Strd.Bs),l.length≤f→Strd.nameCount f first l=Strd.nameCount l.length first l
 |f,first,[],_=>by cases f <;> rfl
 |0,first,c::t,h=>by simp at h
 |f+1,first,c::t,h=>by
  simp only[List.length_cons]
  simp only[Strd.nameCount]
  split
  ·rfl
  ·have hl:(t.drop (Strd.QU (c::t)-1)).length≤t.length:=by rw[List.length_drop];omega
   rw[nameCount_fuel f false _ (by simp at h;omega),nameCount_fuel t.length false _ hl]
theorem name_next (a:UInt8) (t:Strd.Bs) (r d f:Nat) (first:Bool) (hd:dec (a::t)=(r,d)) :
  Strd.nameCount (f+1) first (a::t)=if badSign r first (a::t) then none else (Strd.nameCount f false ((a::t).drop d)).map (·+1):=by
 simp only[Strd.nameCount]
 by_cases h:a.toNat<128
 ·rw[dec_ascii _ _ h]at hd
  cases hd
  have hk:Strd.QU (a::t)=1:=by unfold Strd.QU;simp[h]
  rw[hk]
  have hbr:broken a.toNat (a::t)=false:=by unfold broken;rw[Bool.and_eq_false_iff];left;simp;omega
  have hns:nameSign a.toNat first=(Strd.letter a||(Strd.digit a&&!first)):=by
   rw[letter_nat,digit_nat]
   unfold nameSign
   rw[Bool.eq_iff_iff]
   cases first <;> simp only[Bool.or_eq_true,Bool.and_eq_true,decide_eq_true_eq,beq_iff_eq,Bool.not_true,Bool.not_false,Bool.false_eq_true,and_false,and_true,or_false] <;> omega
  unfold badSign
  rw[hbr,hns]
  cases Strd.letter a <;> cases Strd.digit a <;> cases first <;> simp
 ·rw[dec_high _ _ h]at hd
  have hns:nameSign r first=true:=by
   have:=(dec3_facts a.toNat t (by omega) (u8lt a)).1
   rw[hd]at this
   unfold nameSign
   simp only[Bool.or_eq_true,decide_eq_true_eq]
   simp only at this
   omega
  unfold badSign
  rw[hns]
  rcases signLen_dec a t (by omega) with ⟨h1,h2,h3⟩|⟨h1,h2,h3⟩
  ·rw[hd]at h2
   cases h2
   rw[h1]
   have:broken 65533 (a::t)=true:=by unfold broken Lib.hasPrefix;rw[h3];rfl
   rw[this];simp
  ·rw[hd]at h1 h2 h3
   simp only at h1 h2 h3
   have hbr:broken r (a::t)=false:=by
    unfold broken Lib.hasPrefix
    by_cases e:r=65533
    ·rw[h3 e];simp
    ·simp[e]
   rw[hbr,h1]
   have hdd:(a::t).drop d=t.drop (d-1):=by
    obtain⟨k,rfl⟩:∃k,d=k+1:=⟨d-1,by omega⟩
    rfl
   rw[hdd,if_neg (by omega)];simp
def nameLeft (count:Nat) (l:Strd.Bs):Bool:=match Strd.nameCount l.length (count==0) l with
 |some n=>decide (1≤n+count)&&decide (n+count≤20)
 |none=>false
theorem nameLeft_zero (l:Strd.Bs):nameLeft 0 l=Strd.ZT l:=rfl
theorem nameLeft_nil (count:Nat):nameLeft count []=(decide (1≤count)&&decide (count≤20)):=by simp[nameLeft,Strd.nameCount]
theorem nameLeft_step (count:Nat) (a:UInt8) (t:Strd.Bs) (r d:Nat) (hd:dec (a::t)=(r,d)) (h1:1≤d) :
  nameLeft count (a::t)=if badSign r (count==0) (a::t) then false else nameLeft (count+1) ((a::t).drop d):=by
 unfold nameLeft
 rw[List.length_cons,name_next a t r d t.length (count==0) hd]
 by_cases hb:badSign r (count==0) (a::t)=true
 ·rw[if_pos hb,if_pos hb]
 ·rw[if_neg hb,if_neg hb]
  have hl:((a::t).drop d).length≤t.length:=by rw[List.length_drop,List.length_cons];omega
  rw[nameCount_fuel t.length false _ hl]
  have e:(count+1==0)=false:=by simp
  rw[e]
  cases Strd.nameCount ((a::t).drop d).length false ((a::t).drop d) with
  |none=>rfl
  |some n=>simp only[Option.map_some];rw[show n+1+count=n+(count+1) from by omega]
theorem isName_c (s:ByteArray) (w:World) (hs:s.size≤2^40) :
  Calls Tryz.prog 161 #[.string s] w fun e w'=>e=.returned (.bool (Strd.ZT s.data.toList))∧Below w.heap.size w w':=by
 have hl:s.size=s.data.toList.length:=ZY s
 have Hl:=QB hl
 clear hl
 go_enter Tryz.func161,Tryz.ntmps161
 go_wp2
 go_loopw [3] (fun c wr=>∃(pos count:Nat),pos≤s.size∧count≤pos∧c=.int .i64 count∧wr.heap[w.heap.size]? = some (.stringIter s pos)∧Below w.heap.size w wr∧Strd.ZT s.data.toList=nameLeft count (s.data.toList.drop pos)) (fun _ wr=>s.size-wr.iterPos w.heap.size)
 case atStart=>exact⟨0,0,by omega,by omega,rfl,World.iter_heap _ _ _,QF _ _,by rw[List.drop_zero,nameLeft_zero]⟩
 case round=>
  obtain⟨pos,count,hpos,hct,rfl,hit,hbl,hsp⟩:=hrel
  have Hsp:=QB hsp
  have Hit:=QB hit
  have hip:=iterPos_of hit
  clear hsp
  by_cases hlt:pos<s.size
  ·obtain⟨a,r,d,ha,he,hdec,hd1,hd2,hr,hcase⟩:=sign_step s pos hlt
   have hnx:=fun ty=>Lib.run_next_any_at (P:=Tryz.prog) wr w.heap.size s pos ty hit hlt
   rw[hdec]at hnx
   dsimp only at hnx
   have hdd:dec (a::s.data.toList.drop (pos+1))=(r,d):=by rw[←he,←decode_dec s pos hlt];exact hdec
   have hstep:=nameLeft_step count a _ r d hdd hd1
   rw[←he,List.drop_drop]at hstep
   have Hstep:=QB hstep
   clear hit hcase ha he hdec hdd hstep
   have ec:(((count:Int)+1)==1)=(count==0):=by rw[Bool.eq_iff_iff,beq_iff_eq,beq_iff_eq];omega
   have hex:(s.extract pos s.size).data.toList=s.data.toList.drop pos:=by rw[ZV,QA Hl,List.take_length]
   have Hex:=QB hex
   clear hex
   cases hns:nameSign r (count==0)
   ·have hbad:badSign r (count==0) (s.data.toList.drop pos)=true:=by unfold badSign;rw[hns];rfl
    have Hbad:=QB hbad
    have Hns:=QB hns
    clear hbad hns
    go_wp2_with fail
    refine(isNameSign_c _ _ _).mono ?_
    rintro e w' ⟨rfl,rfl⟩
    rw[QA Hns]
    go_wp2
    go_ret
    refine⟨ret_bool ?_,Lib.below_iterAt hbl (Nat.le_refl _) _ _⟩
    rw[QA Hsp,QA Hstep,QA Hbad];rfl
   ·have hbad:badSign r (count==0) (s.data.toList.drop pos)=broken r (s.data.toList.drop pos):=by unfold badSign;rw[hns];rfl
    have Hbad:=QB hbad
    have Hns:=QB hns
    clear hbad hns
    go_wp2_with fail
    refine(isNameSign_c _ _ _).mono ?_
    rintro e w' ⟨rfl,rfl⟩
    rw[QA Hns]
    go_wp2_with fail
    refine(isBroken_c _ _ _).mono ?_
    rintro e w' ⟨rfl,rfl⟩
    rw[QA Hex]
    cases hbr:broken r (s.data.toList.drop pos)
    ·have Hbr:=QB hbr
     clear hbr
     go_wp2
     go_roundw
     case rel=>
      refine⟨pos+d,count+1,hd2,by omega,by go_num,Lib.iterAt_heap _ _ _ _ _ (QA Hit),Lib.below_iterAt hbl (Nat.le_refl _) _ _,?_⟩
      rw[QA Hsp,QA Hstep,QA Hbad,QA Hbr];rfl
     case measure=>rw[iterPos_of (Lib.iterAt_heap _ _ _ _ _ (QA Hit)),hip];omega
    ·have Hbr:=QB hbr
     clear hbr
     go_wp2
     go_ret
     refine⟨ret_bool ?_,Lib.below_iterAt hbl (Nat.le_refl _) _ _⟩
     rw[QA Hsp,QA Hstep,QA Hbad,QA Hbr];rfl
  ·have hnx:=fun ty=>Lib.run_next_end_at (P:=Tryz.prog) wr w.heap.size s pos ty hit hlt
   have hfin:Strd.ZT s.data.toList=(decide (1≤count)&&decide (count≤20)):=by
    rw[QA Hsp,List.drop_eq_nil_of_le (by rw[←QA Hl];omega),nameLeft_nil]
   have Hfin:=QB hfin
   clear hit hfin
   go_wp2
   all_goals go_ret
   all_goals refine⟨ret_bool ?_,hbl⟩
   all_goals rw[QA Hfin,Bool.eq_iff_iff]
   all_goals simp only[Bool.and_eq_true,decide_eq_true_eq,Bool.false_eq_true,false_iff]
   all_goals omega
theorem dec3_valid (a:Nat) (t:Strd.Bs):Utf8.valid ((dec3 a t).1:Int)=true:=by
 rw[valid_iff]
 unfold dec3
 simp only[Bool.and_eq_true,beq_iff_eq,decide_eq_true_eq,valid_iff,ge_iff_le]
 repeat' split
 all_goals (dsimp only;omega)
theorem IndexRune_error (s:ByteArray) (w:World) (hs:s.size≤1000) (hascii:∀b∈s.data.toList,b.toNat<128) :
  Calls Tryz.prog 198 #[.string s,.int .i32 65533] w fun e w'=>e=.returned (.int .i64 (-1))∧Below w.heap.size w w':=by
 have Hascii:=QB hascii
 clear hascii
 go_enter Tryz.func198,Tryz.ntmps198
 go_wp2
 go_loopw [] (fun wr=>∃(pos:Nat),pos≤s.size∧wr.heap[w.heap.size]? = some (.stringIter s pos)∧Below w.heap.size w wr) (fun wr=>s.size-wr.iterPos w.heap.size)
 case atStart=>exact⟨0,by omega,World.iter_heap _ _ _,QF _ _⟩
 case round=>
  obtain⟨pos,hpos,hit,hbl⟩:=hrel
  have Hit:=QB hit
  have hip:=iterPos_of hit
  by_cases hlt:pos<s.size
  ·obtain⟨a,r,d,ha,he,hdec,hd1,hd2,hr,hcase⟩:=sign_step s pos hlt
   have hnx:=fun ty=>Lib.run_next_any_at (P:=Tryz.prog) wr w.heap.size s pos ty hit hlt
   rw[hdec]at hnx
   dsimp only at hnx
   have ha2:a.toNat<128:=QA Hascii a (List.mem_of_getElem? ha)
   have hre:((r:Int)==65533)=false:=by
    rw[beq_eq_false_iff_ne];omega
   clear hit hcase ha he hdec
   go_wp2
   go_roundw
   case rel=>exact⟨pos+d,hd2,Lib.iterAt_heap _ _ _ _ _ (QA Hit),Lib.below_iterAt hbl (Nat.le_refl _) _ _⟩
   case measure=>rw[iterPos_of (Lib.iterAt_heap _ _ _ _ _ (QA Hit)),hip];omega
  ·have hnx:=fun ty=>Lib.run_next_end_at (P:=Tryz.prog) wr w.heap.size s pos ty hit hlt
   clear hit
   go_wp2
   go_ret
   exact⟨rfl,hbl⟩
theorem indexByte_none:∀(l:Strd.Bs) (c:UInt8),(∀b∈l,b≠c)→Lib.indexByte l c=-1
 |[],_,_=>rfl
 |b::t,c,h=>by
  have hb:(b==c)=false:=by simpa using h b (by simp)
  rw[Lib.indexByte,hb,indexByte_none t c (fun x hx=>h x (by simp[hx]))]
  rfl
theorem IndexRune_valid (s:ByteArray) (r:Nat) (w:World) (hs0:4≤s.size) (hs:s.size≤1000) (hascii:∀b∈s.data.toList,b.toNat<128) (hr:128≤r) (hr2:r≤0x10FFFF) (hne:r≠65533) (hv:Utf8.valid (r:Int)=true) :
  Calls Tryz.prog 198 #[.string s,.int .i32 (r:Int)] w fun e w'=>e=.returned (.int .i64 (-1))∧Below w.heap.size w w':=by
 have Hascii:=QB hascii
 obtain⟨he1,he2,he3⟩:=encode_facts (r:Int) hv (by omega)
 have He3:=QB he3
 have hvr:=validRune_eq (r:Int)
 rw[hv]at hvr
 have Hvr:=QB hvr
 clear he3 hvr
 have hne':((r:Int)==65533)=false:=by rw[beq_eq_false_iff_ne];omega
 have H1:=QB he1
 have H2:=QB he2
 have Hr2:=QB hr2
 have h128:(128:Int)≤(r:Int):=by omega
 generalize (r:Int)=x at *
 clear hascii hne he1 he2 hv hr hr2
 go_enter Tryz.func198,Tryz.ntmps198
 go_wp2_with fail
 refine(Tryz.utf8_ValidRune _ _).mono ?_
 rintro e w' ⟨rfl,rfl⟩
 go_wp2
 ·go_ret
  exact⟨rfl,Below.refl _ _⟩
 ·obtain⟨rs,hrs⟩:∃rs,Utf8.encode x=rs:=⟨_,rfl⟩
  rw[hrs]at H1 H2 He3
  obtain⟨n,hn⟩:∃n,rs.size=n+1:=⟨rs.size-1,by have:=QA H1;omega⟩
  have hn1:n≤3:=by have:=QA H2;omega
  go_step3
  go_wp2
  refine wp_loop_rounds 1 ?_
  rw[rounds_succ]
  have b2:n<s.size:=by omega
  have b3:(n:Int)<(n:Int)+1:=by omega
  have b4:(n:Int)<(s.size:Int):=by omega
  go_wp2
  go_step3
  go_wp2
  go_quiet (fail)
  go_wp2
  ·have b5:(n:Int)+1≤(s.size:Int):=by omega
   have b6:n+1≤s.size:=by omega
   have b7:(0:Int)≤(n:Int)+1:=by omega
   have ew:IntKind.i64.wrap ((n:Int)+1)=(n:Int)+1:=IntWalk.i64_in _ (by omega)
   go_region_with (go_at_call 201;refine(Tryz.strings_IndexByte _ _ _).mono ?_;rintro e w1 ⟨rfl,rfl⟩)
   have h3:128≤(rs[n]'(by omega)).toNat:=by
    have:=QA He3 (by omega)
    simpa [hn] using this
   have H3:=QB h3
   clear h3
   generalize hix:Lib.indexByte _ _=ix
   obtain rfl:ix=-1:=by
    rw[←hix]
    apply indexByte_none
    intro b hb he
    have h1:b.toNat<128:=QA Hascii b (List.mem_of_mem_drop (List.mem_of_mem_take hb))
    have h2:=QA H3
    rw[he]at h1
    first|omega|(simp at h1;omega)
   clear hix
   go_wp2
   simp only[Exit.noGoto_ret,Exit.inBlock,Exit.then]
   go_ret
   exact⟨rfl,QE (Below.refl _ _) ⟨rfl,rfl,rfl,Nat.le_refl _,fun _ _=>rfl⟩⟩
  ·exfalso
   have h3:128≤(rs[n]'(by omega)).toNat:=by
    have:=QA He3 (by omega)
    simpa [hn] using this
   have h4:(s[n]'b2).toNat<128:=QA Hascii _ (by rw[Array.mem_toList_iff];exact Array.getElem_mem b2)
   have h5:(((s[n]'b2).toNat:Int) != ((rs[n]'(by omega)).toNat:Int))=false:=by assumption
   simp at h5
   omega
end Go.Proofs.YtegiloiojloaoaaGreatDoor
