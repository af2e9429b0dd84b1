/- The contract of read.pieces. -/
import Derived.Test.YtegiloiojloaoaaGreatDoorCSpec
import Derived.Test.YtegiloiojloaoaaGreatDoorCTabs
import Derived.Test.YtegiloiojloaoaaGreatDoorCCode6
import Derived.Lib.OthersKept
set_option linter.unusedVariables false
set_option linter.unusedSimpArgs false
set_option maxHeartbeats 1000000
namespace Go.Proofs.YtegiloiojloaoaaGreatDoor
open Go.RowKit Go.Shelf
theorem sign_step (s:ByteArray) (pos:Nat) (h:pos<s.size):∃(a:UInt8) (r d:Nat),s.data.toList[pos]? = some a∧s.data.toList.drop pos=a::s.data.toList.drop (pos+1)∧Utf8.decode s pos=(r,d)∧1≤d∧pos+d≤s.size∧r≤0x10FFFF ∧
  ((a.toNat<128∧r=a.toNat∧d=1)∨(128≤a.toNat∧128≤r∧∀b∈(s.data.toList.drop pos).take d,128≤b.toNat)):=by
 obtain⟨a,ha,he⟩:=drop_ex s pos h
 have hl:s.size=s.data.toList.length:=ZY s
 by_cases h1:a.toNat<128
 ·exact⟨a,a.toNat,1,ha,he,by rw[decode_dec s pos h,he,dec_ascii _ _ h1],by omega,by omega,by omega,.inl ⟨h1,rfl,rfl⟩⟩
 ·have hf:=dec3_facts a.toNat (s.data.toList.drop (pos+1)) (by omega) (u8lt a)
  have hd:Utf8.decode s pos=dec3 a.toNat (s.data.toList.drop (pos+1)):=by rw[decode_dec s pos h,he,dec_high _ _ h1]
  have hln:(s.data.toList.drop (pos+1)).length=s.data.toList.length-(pos+1):=List.length_drop
  refine⟨a,(dec3 a.toNat (s.data.toList.drop (pos+1))).1,(dec3 a.toNat (s.data.toList.drop (pos+1))).2,ha,he,hd,hf.2.2.1,by omega,hf.2.1,.inr ⟨by omega,hf.1,?_⟩⟩
  intro b hb
  rw[he]at hb
  obtain⟨j,hj,rfl⟩:=List.mem_iff_getElem.1 hb
  rw[List.getElem_take]
  cases j with
  |zero=>simp;omega
  |succ j=>
   have hj':j+1<(dec3 a.toNat (s.data.toList.drop (pos+1))).2:=by rw[List.length_take]at hj;omega
   have:=hf.2.2.2.2 j hj'
   rw[List.getElem_cons_succ]
   have hj2:j<(s.data.toList.drop (pos+1)).length:=by omega
   rwa[gD,gE hj2]at this
def splitAcc (m:UInt8):Strd.Bs→Strd.Bs→List Strd.Bs
 |acc,[]=>[acc]
 |acc,c::t=>if c=m then acc::splitAcc m [] t else splitAcc m (acc++[c]) t
theorem splitAcc_eq (m:UInt8):∀(l acc:Strd.Bs),splitAcc m acc l=match Strd.split m l with|[]=>[acc]|h::r=>(acc++h)::r
 |[],acc=>by simp[splitAcc,Strd.split]
 |c::t,acc=>by
  unfold splitAcc Strd.split
  have hne:∀l,Strd.split m l≠[]:=by
   intro l
   cases l with
   |nil=>simp[Strd.split]
   |cons c t=>unfold Strd.split;split;simp;split <;> simp
  by_cases h:c=m
  ·rw[if_pos h,if_pos h,splitAcc_eq m t []]
   cases hs:Strd.split m t with
   |nil=>exact absurd hs (hne t)
   |cons a b=>simp
  ·rw[if_neg h,if_neg h,splitAcc_eq m t (acc++[c])]
   cases hs:Strd.split m t with
   |nil=>exact absurd hs (hne t)
   |cons a b=>simp
theorem splitAcc_split (m:UInt8) (l:Strd.Bs):splitAcc m [] l=Strd.split m l:=by
 rw[splitAcc_eq]
 cases l with
 |nil=>simp[Strd.split]
 |cons c t=>cases hs:Strd.split m (c::t) with
  |nil=>simp[Strd.split]at hs;split at hs;cases hs;split at hs <;> cases hs
  |cons a b=>simp
theorem splitAcc_skip (m:UInt8):∀(x acc y:Strd.Bs),(∀b∈x,b≠m)→splitAcc m acc (x++y)=splitAcc m (acc++x) y
 |[],acc,y,_=>by simp
 |c::t,acc,y,h=>by
  rw[List.cons_append,splitAcc,if_neg (h c (by simp)),splitAcc_skip m t (acc++[c]) y (fun b hb=>h b (by simp[hb]))]
  simp
def ZR (base:Nat) (w:World) (v:Value) (ss:List Strd.Bs):Prop:=w.ownsRow base 9 1 v ss.length (ss.map fun s=>.string (bstr s))
theorem strs_one (ss:List Strd.Bs):∀u∈ss.map (fun s=>Value.string (bstr s)),u.oneCell'=true:=by
 intro u hu;simp only[List.mem_map]at hu;obtain⟨b,_,rfl⟩:=hu;rfl
theorem Tryz.info9:(Tryz.prog.info? 9).map (fun i=>(i.zero,i.size,i.bytes))=some (some (.string ⟨#[]⟩),1,16):=by kernel_rfl
theorem take_drop_piece (l:Strd.Bs) (start pos d:Nat) (h:start≤pos) (hd:pos+d≤l.length):(l.take pos).drop start++(l.drop pos).take d=(l.take (pos+d)).drop start:=by
 have e:l.take (pos+d)=l.take pos++(l.drop pos).take d:=by rw[List.take_add]
 rw[e,List.drop_append_of_le_length (by rw[List.length_take];omega)]
theorem pieces_c (s:ByteArray) (m:UInt8) (hm:m.toNat<128) (w:World) (hs:s.size≤2^40) :
  Calls Tryz.prog 57 #[.string s,.int .i32 (m.toNat:Int)] w fun e w'=>∃v,e=.returned v∧ZR w.heap.size w' v (Strd.split m s.data.toList)∧Below w.heap.size w w':=by
 obtain⟨i0,hi,hz0,hz1,hz2⟩:=info_parts Tryz.info9
 have hl:s.size=s.data.toList.length:=ZY s
 have Hl:=QB hl
 clear hl
 go_enter Tryz.func57,Tryz.ntmps57
 go_wp2
 go_loopw [5,6] (fun v st wr=>∃(pos start:Nat) (done:List Strd.Bs),pos≤s.size∧start≤pos∧done.length≤pos∧st=.int .i64 start∧wr.heap[w.heap.size]? = some (.stringIter s pos)∧ZR (w.heap.size+1) wr v done∧Below w.heap.size w wr∧Strd.split m s.data.toList=done++splitAcc m ((s.data.toList.take pos).drop start) (s.data.toList.drop pos)) (fun _ _ wr=>s.size-wr.iterPos w.heap.size)
 case atStart=>
  exact⟨0,0,[],by omega,by omega,by simp,rfl,World.iter_heap _ _ _,World.ownsRow_nil _ _ _ _,QF _ _,by simp[splitAcc_split]⟩
 case round=>
  obtain⟨pos,start,done,hpos,hst,hdn,rfl,hit,hrow,hbl,hsp⟩:=hrel
  have Hsp:=QB hsp
  have Hit:=QB hit
  have hip:=iterPos_of hit
  clear hsp
  by_cases hlt:pos<s.size
  ·obtain⟨a,r,d,ha,he,hdec,hd1,hd2,hr,hcase⟩:=sign_step s pos hlt
   have hnx:=fun ty=>Lib.run_next_any_at (P:=Tryz.prog) wr w.heap.size s pos ty hit hlt
   rw[hdec]at hnx
   dsimp only at hnx
   clear hit
   by_cases heq:a=m
   ·have hc1:a.toNat<128∧r=a.toNat∧d=1:=by
     rcases hcase with h|h
     ·exact h
     ·rw[heq]at h;omega
    obtain⟨_,hr1,hd3⟩:=hc1
    have hre:((r:Int)==(m.toNat:Int))=true:=by rw[hr1,heq];simp
    have hex:(s.extract start pos)=bstr ((s.data.toList.take pos).drop start):=by
     apply QZ;rw[ZV]
    have Hex:=QB hex
    have Hq:=QB (And.intro heq (And.intro hr1 hd3))
    clear hex hcase heq hr1 hd3 ha hdec
    have hrow1:=QB (ownsRow_iterAt hrow (k:=w.heap.size) (by omega) s (pos+d))
    go_wp2_with (first|(at_builtin;refine wpList_append_own _ rfl _ _ 38 rfl (w.heap.size+1) 9 i0 (.string ⟨#[]⟩) 1 16 Tryz.underlying38 hi hz0 hz1 hz2 rfl (by decide) _ _ _ rfl ((QA hrow1).alloc _) ⟨(wr.iterAt w.heap.size s (pos+d)).heap.size,0,none⟩ 1 1 [.string (bstr ((s.data.toList.take pos).drop start))] ?cx rfl ?c1 ?c2 ?c3 ?c4 ?c5 ?_)|go_in)
    case cx=>rfl
    case c1=>
     rw[←QA Hex]
     exact cell_one_new _ _ _
    case c2=>exact strs_one [(s.data.toList.take pos).drop start]
    case c3=>unfold maxLen;omega
    case c4=>omega
    case c5=>rw[World.size_alloc,Lib.iterAt_size];have:=QD (QA Hit);omega
    intro v1 w2 hown hgrow _
    obtain⟨heq,hr1,hd3⟩:=QA Hq
    have hsz:w.heap.size<wr.heap.size:=QD (QA Hit)
    have hit2:w2.heap[w.heap.size]? = some (.stringIter s (pos+d)):=by
     rw[hgrow.block _ (by rw[World.size_alloc,Lib.iterAt_size];omega) (by
      intro e
      have:=(hrow.lt _ e.symm).1
      omega)]
     rw[Below.heap_alloc _ _ _ (by rw[Lib.iterAt_size];omega)]
     exact Lib.iterAt_heap _ _ _ _ _ (QA Hit)
    have hbl2:Below w.heap.size w w2:=Below.grown ((Lib.below_iterAt hbl (Nat.le_refl _) s (pos+d)).alloc (by rw[Lib.iterAt_size];omega) _) hgrow (by rw[World.size_alloc,Lib.iterAt_size];omega) (fun k e=>by have:=(hrow.lt _ e).1;omega)
    have Hit2:=QB hit2
    clear hit2 hgrow
    subst hd3
    go_wp2
    go_roundw
    case rel=>
     refine⟨pos+1,pos+1,done++[(s.data.toList.take pos).drop start],hd2,by omega,by rw[List.length_append];simp;omega,by go_num,QA Hit2,?_,hbl2,?_⟩
     ·show World.ownsRow _ _ _ _ _ _ _
      rw[List.length_append,List.map_append]
      exact hown
     ·rw[QA Hsp,he,splitAcc,if_pos heq,List.append_assoc,List.singleton_append]
      have e:(s.data.toList.take (pos+1)).drop (pos+1)=[]:=List.drop_eq_nil_of_le (by rw[List.length_take];omega)
      rw[e]
    case measure=>rw[iterPos_of (QA Hit2),hip];omega
   ·have hre:((r:Int)==(m.toNat:Int))=false:=by
     rw[beq_eq_false_iff_ne]
     intro h
     have h':r=m.toNat:=by omega
     rcases hcase with ⟨_,h2,_⟩|⟨_,h2,_⟩
     ·exact heq (UInt8.toNat_inj.1 (by omega))
     ·omega
    have hne:∀b∈(s.data.toList.drop pos).take d,b≠m:=by
     intro b hb e
     subst e
     rcases hcase with ⟨_,_,h3⟩|⟨_,_,h3⟩
     ·subst h3;rw[he]at hb;simp at hb;exact heq hb.symm
     ·have:=h3 b hb;omega
    have Hne:=QB hne
    clear hne hcase heq ha he hdec
    go_wp2
    go_roundw
    case rel=>
     refine⟨pos+d,start,done,hd2,by omega,by omega,rfl,Lib.iterAt_heap _ _ _ _ _ (QA Hit),ownsRow_iterAt hrow (by omega) _ _,Lib.below_iterAt hbl (Nat.le_refl _) _ _,?_⟩
     rw[QA Hsp]
     have e:s.data.toList.drop pos=(s.data.toList.drop pos).take d++s.data.toList.drop (pos+d):=by
      rw[←List.drop_drop,List.take_append_drop]
     rw[e,splitAcc_skip m _ _ _ (QA Hne),take_drop_piece _ _ _ _ hst (by rw[←QA Hl];exact hd2)]
    case measure=>rw[iterPos_of (Lib.iterAt_heap _ _ _ _ _ (QA Hit)),hip];omega
  ·have hnx:=fun ty=>Lib.run_next_end_at (P:=Tryz.prog) wr w.heap.size s pos ty hit hlt
   clear hit
   obtain rfl:pos=s.size:=by omega
   have hex:(s.extract start s.size)=bstr (s.data.toList.drop start):=by
    apply QZ;rw[ZV,QA Hl,List.take_length]
   have Hex:=QB hex
   clear hex
   have hsz:w.heap.size<wr.heap.size:=QD (QA Hit)
   go_wp2_with (first|(at_builtin;refine wpList_append_own _ rfl _ _ 38 rfl (w.heap.size+1) 9 i0 (.string ⟨#[]⟩) 1 16 Tryz.underlying38 hi hz0 hz1 hz2 rfl (by decide) _ _ _ rfl (hrow.alloc _) ⟨wr.heap.size,0,none⟩ 1 1 [.string (bstr (s.data.toList.drop start))] ?dx rfl ?d1 ?d2 ?d3 ?d4 ?d5 ?_)|go_in)
   case dx=>rfl
   case d1=>rw[←QA Hex];exact cell_one_new _ _ _
   case d2=>exact strs_one [s.data.toList.drop start]
   case d3=>unfold maxLen;omega
   case d4=>omega
   case d5=>rw[World.size_alloc];omega
   intro v1 w2 hown hgrow _
   have hbl2:Below w.heap.size w w2:=Below.grown (hbl.alloc (by omega) _) hgrow (by rw[World.size_alloc];omega) (fun k e=>by have:=(hrow.lt _ e).1;omega)
   clear hgrow
   go_wp2
   go_ret
   refine⟨v1,rfl,?_,hbl2⟩
   rw[QA Hsp,QA Hl,List.take_length,List.drop_length,splitAcc]
   show World.ownsRow _ _ _ _ _ _ _
   rw[List.length_append,List.map_append]
   obtain⟨q1,q2⟩:=hown
   refine⟨q1,q2.imp id ?_⟩
   rintro ⟨g,cap,cur,h1,h2,h3⟩
   exact⟨g,cap,cur,h1,by omega,h3⟩
end Go.Proofs.YtegiloiojloaoaaGreatDoor
