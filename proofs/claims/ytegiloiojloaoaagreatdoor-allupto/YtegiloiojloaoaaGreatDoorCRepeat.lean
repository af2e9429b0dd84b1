/- The contract of slices.Repeat at one place, so many times. -/
import Derived.Test.YtegiloiojloaoaaGreatDoorCSpec
import Derived.Test.YtegiloiojloaoaaGreatDoorCNum
import Derived.Laws.CopyOwn
import Derived.OwnWalk
set_option linter.unusedVariables false
set_option linter.unusedSimpArgs false
set_option maxHeartbeats 1000000
set_option maxRecDepth 1000000
namespace Go.Proofs.YtegiloiojloaoaaGreatDoor
open Go.RowKit Go.Shelf
theorem mul_one (m:Nat) (hm:m<18446744073709551616) (w:World):Calls Tryz.prog 151 #[.int .u64 1,.int .u64 (m:Int)] w fun e w'=>e=.returned (.tuple #[.int .u64 0,.int .u64 (m:Int)])∧w'=w:=by
 have h:=Tryz.bits_Mul 1 m (by omega) hm w
 have e1:1*m / 18446744073709551616=0:=by omega
 have e2:1*m % 18446744073709551616=m:=by omega
 rw[e1,e2]at h
 exact h
theorem Tryz.info160:(Tryz.prog.info? 160).map (fun i=>(i.zero,i.size,i.bytes))=some (some (.int .i64 0),1,8):=by kernel_rfl
def repRow (m k:Nat):List Value:=List.replicate k (.int .i64 3)++List.replicate (m-k) (.int .i64 0)
theorem repRow_len (m k:Nat) (h:k≤m):(repRow m k).length=m:=by simp[repRow];omega
theorem repRow_splice (m k j:Nat) (h:k+j≤m):splice (repRow m k) k (List.replicate j (.int .i64 3))=repRow m (k+j):=by
 unfold splice repRow
 have e1:(List.replicate k (Value.int .i64 3)++List.replicate (m-k) (Value.int .i64 0)).take k=List.replicate k (.int .i64 3):=by
  rw[List.take_append_of_le_length (by simp)];simp
 have e2:(List.replicate k (Value.int .i64 3)++List.replicate (m-k) (Value.int .i64 0)).drop (k+j)=List.replicate (m-(k+j)) (.int .i64 0):=by
  rw[List.drop_append];simp;omega
 rw[e1,List.length_replicate,e2,←List.append_assoc,List.replicate_append_replicate]
theorem own_full {w:World} {base n g:Nat} {e:TypeId} {xs:List Value} (h:w.ownsRow base e 1 (.slice (some ⟨g,0,none⟩) n n) n xs):w.heap[g]? = some (.cells xs.toArray e (0,0)):=by
 rcases h.2 with ⟨h1,_⟩|⟨g',cap,cur,h1,_,h3,_,_,h6,h7⟩
 ·cases h1
 ·simp only[Value.slice.injEq,Option.some.injEq,Addr.mk.injEq]at h1
  obtain⟨⟨rfl,_⟩,_,rfl⟩:=h1
  rw[h3,←h7,List.take_of_length_le (by rw[Array.length_toList,h6];omega)]
theorem made_rep (z:Value) (n:Nat):(madeCells #[z] (n*1)).toList=List.replicate n z:=by
 apply List.ext_getElem
 ·simp[madeCells]
 ·intro i h1 h2;simp[madeCells,Nat.mod_one]
theorem threes_one (j:Nat):∀v∈List.replicate j (Value.int .i64 3),v.oneCell'=true:=by
 intro v hv;rw[List.eq_of_mem_replicate hv];rfl
theorem Repeat_c (m b:Nat) (h1:1≤m) (h8:m≤8) (w:World) (hb:b<w.heap.size) (hc:w.cell? ⟨b,0,none⟩=some (.int .i64 3)) :
  Calls Tryz.prog 125 #[.slice (some ⟨b,0,none⟩) 1 1,.int .i64 (m:Int)] w fun e w'=>∃v,e=.returned v∧w'.ownsRow w.heap.size 160 1 v m (List.replicate m (.int .i64 3))∧Below w.heap.size w w':=by
 obtain⟨i0,hi,hz0,hz1,hz2⟩:=info_parts Tryz.info160
 go_enter Tryz.func125,Tryz.ntmps125
 go_wp2_with fail
 refine(mul_one m (by omega) _).mono ?_
 rintro e w' ⟨rfl,rfl⟩
 go_wp2_with (first
  |(at_make;refine wpList_make_full _ rfl _ _ 158 rfl _ 160 i0 (.int .i64 0) 1 Tryz.underlying158 hi hz0 hz1 .i64 .i64 _ _ m rfl rfl rfl rfl (by rw[hz2];omega) (by unfold maxLen;omega) (Nat.le_refl _) ?_;intro w1 hown hgrow;have hbl1:Below w'.heap.size w' w1:=⟨hgrow.os,hgrow.tape,hgrow.output,hgrow.size,fun k hk=>hgrow.block k hk (by simp)⟩;have Hrow:=QB (own_full hown);clear hown hgrow)
  |(refine wpList_copy_splice rfl (.tmp 31) (.tmp 32) 158 158 rfl 160 Tryz.underlying158 (by kernel_rfl) (some ⟨w'.heap.size,0,none⟩) (some ⟨b,0,none⟩) m m 1 1 rfl rfl w'.heap.size 0 _ 160 (QA Hrow) [.int .i64 3] ?c1 ?c2 ?c3 (threes_one 1) w'.heap.size w' hbl1 (Nat.le_refl _) ?_))
 case c1=>show 1=min 1 m;omega
 case c2=>
  intro j v hj
  match j,hj with
  |0,hj=>simp at hj;subst hj;rw[hbl1.cell (p:=⟨b,0,none⟩) hb];exact hc
 case c3=>
  have e:=Array.length_toList (xs:=madeCells (Value.int .i64 0).cells (m*1))
  rw[size_madeCells]at e
  rw[e]
  simp
  omega
 intro w2 HG2 hB2
 have hrow2:w2.heap[w'.heap.size]? = some (.cells (repRow m 1).toArray 160 (0,0)):=by
  have:=QA HG2
  have e:(madeCells #[Value.int .i64 0] m).toList=repRow m 0:=by
   have:=made_rep (.int .i64 0) m
   rw[Nat.mul_one]at this
   rw[this];simp[repRow]
  rw[e,show [Value.int .i64 3]=List.replicate 1 (.int .i64 3) from rfl,repRow_splice m 0 1 (by omega)]at this
  exact this
 have Hrow2:=QB hrow2
 clear hrow2 HG2 Hrow hbl1
 go_wp2
 go_loopw [8] (fun n wr=>∃k:Nat,1≤k∧k≤m∧n=.int .i64 k∧wr.heap[w'.heap.size]? = some (.cells (repRow m k).toArray 160 (0,0))∧Below w'.heap.size w' wr) (fun n _=>m-(intOf n).toNat)
 case atStart=>exact⟨1,by omega,by omega,rfl,QA Hrow2,hB2⟩
 case round=>
  obtain⟨k,hk1,hkm,rfl,hrow,hbl⟩:=hrel
  have Hrow:=QB hrow
  clear hrow
  by_cases hlt:k<m
  ·have b1:(0:Int)≤(k:Int):=by omega
   have b2:(k:Int)≤(m:Int):=by omega
   have s1:(List.replicate (min k (m-k)) (Value.int .i64 3)).length=Nat.min k (m-k):=by simp
   have s2:k+(List.replicate (min k (m-k)) (Value.int .i64 3)).length≤(repRow m k).length:=by rw[repRow_len m k (by omega)];simp;omega
   have s3:∀j v,(List.replicate (min k (m-k)) (Value.int .i64 3))[j]? = some v→wr.drew.cell? ⟨w'.heap.size,j,none⟩=some v:=by
    intro j v hj
    rw[List.getElem?_replicate]at hj
    split at hj
    ·rename_i hjl
     cases hj
     have hcell:wr.drew.cell? ⟨w'.heap.size,j,none⟩=(repRow m k).toArray[j]?:=by
      have:=QC (QA Hrow) j
      exact this
     rw[hcell]
     unfold repRow
     rw[gA,List.getElem?_append_left (by simp;omega),List.getElem?_replicate,if_pos (by omega)]
    ·cases hj
   have ew:IntKind.i64.wrap ((k:Int)+((min k (m-k):Nat):Int))=(k:Int)+((min k (m-k):Nat):Int):=IntWalk.i64_in _ (by omega)
   have S1:=QB s1
   have S2:=QB s2
   have S3:=QB s3
   clear s1 s2 s3
   go_wp2
   go_region_law (refine step_copy_splice rfl (.tmp 41) (.tmp 44) 158 158 rfl 160 Tryz.underlying158 (by kernel_rfl) (some ⟨w'.heap.size,k,none⟩) (some ⟨w'.heap.size,0,none⟩) (m-k) (m-k) k m (by simp[Act.eval,Act.put];omega) (by simp[Act.eval,Act.put]) w'.heap.size k (repRow m k) 160 (QA Hrow) (List.replicate (min k (m-k)) (.int .i64 3)) (QA S1) (fun _=>⟨rfl,_,rfl,fun j v hj=>by rw[Addr.add_lit,Nat.zero_add];exact QA S3 j v hj⟩) (QA S2) (threes_one _) w'.heap.size w' hbl.drew (Nat.le_refl _) ?_;intro w3 HG3 hB3)
   have hrow3:w3.heap[w'.heap.size]? = some (.cells (repRow m (k+min k (m-k))).toArray 160 (0,0)):=by
    have:=QA HG3
    rw[repRow_splice m k _ (by omega)]at this
    exact this
   have Hrow3:=QB hrow3
   clear hrow3 HG3
   have hmn:min k (m-k)≤8:=by omega
   go_wp2
   go_roundw
   case rel=>exact⟨k+min k (m-k),by omega,by omega,by omega,QA Hrow3⟩
   case measure=>simp only[intOf];omega
  ·obtain rfl:k=m:=by omega
   go_wp2
   go_ret
   refine⟨_,rfl,?_,hbl⟩
   have e:repRow k k=List.replicate k (.int .i64 3):=by simp[repRow]
   have hr:=QA Hrow
   rw[e]at hr
   exact⟨by simp,.inr ⟨w'.heap.size,k,_,rfl,Nat.le_refl _,hr,Nat.le_refl _,by unfold maxLen;omega,by simp,by simp⟩⟩
end Go.Proofs.YtegiloiojloaoaaGreatDoor
